package reg

import (
	"math"
	"slices"
	"testing"

	"polyphony/api"
)

// dice is numbers that look like no pattern, the same ones each time.
type dice uint32

func (s *dice) roll(n int) int {
	*s = *s*1664525 + 1013904223
	return int(*s>>8) % n
}

// mixed is a list in another order.
func (s *dice) mixed(l []api.Event) []api.Event {
	l = slices.Clone(l)
	for i := range l {
		j := i + s.roll(len(l)-i)
		l[i], l[j] = l[j], l[i]
	}
	return l
}

// noKinds is numbers that are no kind, some of them alike Set in their lowest bits.
func noKinds() []int {
	return []int{0, 12, 13, -1, -11, 1<<8 + 1, 1<<16 + 1, 1<<32 + 1, math.MinInt, math.MinInt + 1, math.MaxInt}
}

// junk is an event of few times, replicas and numbers, so that of many none is later. It may be one that can't be.
func (s *dice) junk() api.Event {
	e := api.Event{Dot: api.Dot{R: s.roll(3), N: 1 + s.roll(3)}, Time: s.roll(3)}
	e.Deps = api.VV{s.roll(4), s.roll(4), s.roll(4)}
	e.Op = api.Op{Kind: 1 + s.roll(11), Key: []string{"k", "j", ""}[s.roll(3)], Value: []string{"v", "w", "x", ""}[s.roll(4)]}
	e.Op.Num = s.roll(5)
	if s.roll(2) == 0 {
		e.Op.Kind = api.Set
	}
	switch s.roll(8) {
	case 0:
		e.Op.Kind = noKinds()[s.roll(len(noKinds()))]
	case 1:
		e.Dot = []api.Dot{{}, {R: -1, N: 1}, {R: 16, N: 1}, {R: 0, N: -1}, {R: 1, N: 1<<20 + 1}, {R: math.MinInt, N: math.MaxInt}}[s.roll(6)]
	case 2:
		e.Deps = api.VV{math.MinInt, math.MaxInt, -1}
	case 3:
		e.Time = []int{math.MinInt, -1, math.MaxInt}[s.roll(3)]
	}
	return e
}

// junks is a list of such events, some of which stand there twice.
func (s *dice) junks(most int) []api.Event {
	var l []api.Event
	for range s.roll(most + 1) {
		l = append(l, s.junk())
		if s.roll(5) == 0 {
			l = append(l, l[s.roll(len(l))])
		}
	}
	return l
}

// later is whether b is later than a by layer 5's words.
func later(b, a api.Event) bool {
	return b.Time > a.Time || b.Time == a.Time && (b.Dot.R > a.Dot.R || b.Dot.R == a.Dot.R && b.Dot.N > a.Dot.N)
}

// plainLatest is the first event of a list that no other one is later than: each held against each other one.
func plainLatest(l []api.Event) (api.Event, bool) {
	for _, a := range l {
		if !slices.ContainsFunc(l, func(b api.Event) bool { return later(b, a) }) {
			return a, true
		}
	}
	return api.Event{}, false
}

// plainValue is a text by the document's words.
func plainValue(l []api.Event) (string, bool) {
	e, ok := plainLatest(sets(l))
	return e.Op.Value, ok
}

// sets is the Set events of a list.
func sets(l []api.Event) []api.Event {
	return slices.DeleteFunc(slices.Clone(l), func(e api.Event) bool { return e.Op.Kind != 1 })
}

// isLatest holds Latest against what it shall tell.
func isLatest(t *testing.T, what string, l []api.Event, want api.Event) {
	t.Helper()
	if got, ok := Latest(l); got != want || !ok {
		t.Errorf("%s: Latest of %v: %v, %t, not %v", what, l, got, ok, want)
	}
}

// isValue holds Value against what it shall tell.
func isValue(t *testing.T, what string, l []api.Event, want string) {
	t.Helper()
	if got, ok := Value(l); got != want || !ok {
		t.Errorf("%s: Value of %v: %q, %t, not %q", what, l, got, ok, want)
	}
}

// noValue holds that there is no Set event.
func noValue(t *testing.T, what string, l []api.Event) {
	t.Helper()
	if got, ok := Value(l); got != "" || ok {
		t.Errorf("%s: Value of %v: %q, %t", what, l, got, ok)
	}
}

// noLatest holds that there is no event.
func noLatest(t *testing.T, what string, l []api.Event) {
	t.Helper()
	if got, ok := Latest(l); got != (api.Event{}) || ok {
		t.Errorf("%s: Latest of %v: %v, %t", what, l, got, ok)
	}
}

// asTold holds all that is told of a list against the document's words.
func asTold(t *testing.T, what string, l []api.Event) {
	t.Helper()
	if e, ok := plainLatest(l); ok {
		isLatest(t, what, l, e)
	} else {
		noLatest(t, what, l)
	}
	if s, ok := plainValue(l); ok {
		isValue(t, what, l, s)
	} else {
		noValue(t, what, l)
	}
}

// set is a Set event of a dot at a time.
func set(r, n, time int, value string) api.Event {
	return made(api.Set, r, n, time, value)
}

// made is an event of a kind with a dot at a time.
func made(kind, r, n, time int, value string) api.Event {
	return api.Event{Dot: api.Dot{R: r, N: n}, Time: time, Op: api.Op{Kind: kind, Key: "k", Value: value}}
}

// orders calls a function with each order of events.
func orders(l []api.Event, do func(l []api.Event)) {
	l = slices.Clone(l)
	var from func(n int)
	from = func(n int) {
		if n == len(l) {
			do(slices.Clone(l))
			return
		}
		for i := n; i < len(l); i++ {
			l[n], l[i] = l[i], l[n]
			from(n + 1)
			l[n], l[i] = l[i], l[n]
		}
	}
	from(0)
}

// P11.1: the document's example.
func TestExample(t *testing.T) {
	a, b := set(1, 1, 5, "a"), set(2, 1, 5, "b")
	orders([]api.Event{a, b}, func(l []api.Event) {
		isValue(t, "the example", l, "b")
		isLatest(t, "the example", l, b)
	})
}

// P11.1, R1, R2, R4: of no events there is nothing.
func TestNoEvents(t *testing.T) {
	for _, l := range [][]api.Event{nil, {}, make([]api.Event, 0, 9), []api.Event{set(1, 1, 5, "v")}[:0]} {
		noLatest(t, "none", l)
		noValue(t, "none", l)
	}
}

// P11.1: one event is the latest one, of whatever kind it is; its Value is told if it is a Set.
func TestOneEvent(t *testing.T) {
	for kind := api.Set; kind <= api.Del; kind++ {
		e := made(kind, 3, 4, 7, "v")
		e.Deps, e.Op.Field, e.Op.Num, e.Op.Ref = api.VV{3: 3, 5: 2}, "f", 6, api.Dot{R: 5, N: 1}
		isLatest(t, "one", []api.Event{e}, e)
		if kind == api.Set {
			isValue(t, "one", []api.Event{e}, "v")
		} else {
			noValue(t, "one", []api.Event{e})
		}
	}
}

// P11.1: the greater time wins, whatever the dots are; at one time the greater replica, whatever the numbers are;
// of one replica the greater number.
func TestWhichIsLater(t *testing.T) {
	for _, c := range []struct {
		what         string
		early, later api.Event
	}{
		{"the time", set(1, 1, 5, "a"), set(1, 1, 6, "b")},
		{"the time, ahead of the replica", set(15, 1, 5, "a"), set(0, 1, 6, "b")},
		{"the time, ahead of the number", set(1, 1<<20, 5, "a"), set(1, 1, 6, "b")},
		{"the times' edges", set(9, 9, 0, "a"), set(1, 1, 1<<60-1, "b")},
		{"the last time", set(9, 9, 1<<60-2, "a"), set(1, 1, 1<<60-1, "b")},
		{"times as numbers", set(9, 9, 9, "a"), set(1, 1, 10, "b")},
		{"the replica", set(0, 1, 5, "a"), set(1, 1, 5, "b")},
		{"the replica, ahead of the number", set(1, 9, 5, "a"), set(2, 1, 5, "b")},
		{"the replicas' edges", set(0, 1<<20, 5, "a"), set(15, 1, 5, "b")},
		{"replicas as numbers", set(9, 1, 5, "a"), set(10, 1, 5, "b")},
		{"the number", set(1, 1, 5, "a"), set(1, 2, 5, "b")},
		{"the numbers' edges", set(1, 1, 5, "a"), set(1, 1<<20, 5, "b")},
		{"numbers as numbers", set(1, 9, 5, "a"), set(1, 10, 5, "b")},
		{"not the value", set(1, 1, 5, "z"), set(1, 1, 6, "a")},
		{"not the value's length", set(1, 1, 5, "long"), set(1, 1, 6, "")},
	} {
		orders([]api.Event{c.early, c.later}, func(l []api.Event) {
			isLatest(t, c.what, l, c.later)
			isValue(t, c.what, l, c.later.Op.Value)
		})
	}
}

// P11.1: what an event had seen, its key and its other parts play no part in which is the latest.
func TestNothingElseCounts(t *testing.T) {
	a, b := set(1, 1, 5, "a"), set(2, 1, 6, "b")
	a.Deps, a.Op.Key, a.Op.Field, a.Op.Num, a.Op.Ref = api.VV{9, 9, 9, 9}, "z", "z", 9, api.Dot{R: 9, N: 9}
	orders([]api.Event{a, b}, func(l []api.Event) {
		isLatest(t, "all else greater", l, b)
		isValue(t, "all else greater", l, "b")
	})
	a.Deps, b.Deps = api.VV{2: 1}, api.VV{}
	orders([]api.Event{a, b}, func(l []api.Event) {
		isLatest(t, "having seen the later one", l, b)
		isValue(t, "having seen the later one", l, "b")
	})
}

// P11.1: the latest one at each place of a list, by its time, its replica and its number.
func TestLatestAtEachPlace(t *testing.T) {
	const n = 9
	for at := range n {
		byTime, byReplica, byNumber := make([]api.Event, n), make([]api.Event, n), make([]api.Event, n)
		for i := range n {
			byTime[i], byReplica[i], byNumber[i] = set(i%3, 1+i, i%4, "v"), set(i%4, 1+i, 5, "v"), set(5, 1+i%4, 5, "v")
		}
		byTime[at], byReplica[at], byNumber[at] = set(0, 1, 4, "w"), set(4, 1, 5, "w"), set(5, 5, 5, "w")
		for _, l := range [][]api.Event{byTime, byReplica, byNumber} {
			isLatest(t, "at a place", l, l[at])
			isValue(t, "at a place", l, "w")
		}
	}
}

// P11.1: of those of which none is later the first one in the list is told, unlike as they are.
func TestNoneIsLater(t *testing.T) {
	text, other, empty := set(1, 1, 5, "v"), set(1, 1, 5, "w"), set(1, 1, 5, "")
	tally, list := made(api.Incr, 1, 1, 5, ""), made(api.Push, 1, 1, 5, "x")
	seen, key := text, text
	seen.Deps, key.Op.Key, key.Op.Value = api.VV{7: 7}, "j", "y"
	orders([]api.Event{text, other, empty, tally, list, seen, key}, func(l []api.Event) {
		isLatest(t, "none is later", l, l[0])
		isValue(t, "none is later", l, sets(l)[0].Op.Value)
	})
	early, numbered := set(9, 9, 4, "early"), set(0, 9, 5, "numbered")
	orders([]api.Event{early, text, numbered, other, tally}, func(l []api.Event) {
		first := slices.IndexFunc(l, func(e api.Event) bool { return e.Time == 5 && e.Dot.R == 1 })
		isLatest(t, "with earlier ones", l, l[first])
		first = slices.IndexFunc(l, func(e api.Event) bool { return e == text || e == other })
		isValue(t, "with earlier ones", l, l[first].Op.Value)
	})
}

// P11.1: an event that stands there twice is told as once.
func TestTwice(t *testing.T) {
	a, b := set(1, 1, 5, "a"), set(1, 2, 5, "b")
	orders([]api.Event{a, a, b, b}, func(l []api.Event) {
		isLatest(t, "twice", l, b)
		isValue(t, "twice", l, "b")
	})
}

// P11.1: a text is told by the Set events alone, however late the others are; without a Set there is none.
func TestSetsAmongOthers(t *testing.T) {
	var others []api.Event
	for kind := api.Incr; kind <= api.Del; kind++ {
		others = append(others, made(kind, kind, 1, 10+kind, "other"))
	}
	last := others[len(others)-1]
	noValue(t, "no Set", others)
	isLatest(t, "no Set", others, last)
	a, b, c := set(1, 1, 5, "a"), set(2, 1, 5, "b"), set(3, 1, 4, "c")
	for at := range len(others) + 1 {
		one := slices.Insert(slices.Clone(others), at, a)
		isValue(t, "one Set", one, "a")
		isLatest(t, "one Set", one, last)
		several := slices.Insert(slices.Clone(one), len(one)-at, b, c)
		isValue(t, "several", several, "b")
		isLatest(t, "several", several, last)
	}
	for _, e := range others {
		e.Time = 0
		orders([]api.Event{e, a, b}, func(l []api.Event) {
			isValue(t, "an early other one", l, "b")
			isLatest(t, "an early other one", l, b)
		})
		e.Dot, e.Time = b.Dot, b.Time
		isValue(t, "another kind with the same dot, ahead", []api.Event{e, b, a}, "b")
		isLatest(t, "another kind with the same dot, ahead", []api.Event{e, b, a}, e)
		isLatest(t, "another kind with the same dot, behind", []api.Event{b, e, a}, b)
	}
}

// P11.1: the empty text is a value: it is told, and with true.
func TestEmptyValue(t *testing.T) {
	empty, other := set(1, 1, 5, ""), set(1, 2, 6, "v")
	isValue(t, "alone", []api.Event{empty}, "")
	orders([]api.Event{empty, other}, func(l []api.Event) { isValue(t, "the earlier one", l, "v") })
	empty.Time = 7
	orders([]api.Event{empty, other}, func(l []api.Event) { isValue(t, "the later one", l, "") })
	zero := api.Event{Op: api.Op{Kind: api.Set}}
	isValue(t, "all else zero", []api.Event{zero}, "")
	isLatest(t, "all else zero", []api.Event{zero}, zero)
}

// P11.1: values are told byte by byte, and whole, however long they are.
func TestValuesOfAnyBytes(t *testing.T) {
	long := string(make([]byte, 100000)) + "end"
	for _, s := range []string{"\x00", "a\x00b", "\xff\xfe", "日本", "k\n\r", " ", long[len(long)-64:], long} {
		isValue(t, "some bytes", []api.Event{set(2, 1, 4, "v"), set(1, 1, 5, s), set(0, 1, 5, "w")}, s)
	}
}

// P11.1, R1: the zero event is an event as others are; it is one of a kind that there isn't.
func TestZeroEvent(t *testing.T) {
	zero := api.Event{}
	isLatest(t, "alone", []api.Event{zero}, zero)
	noValue(t, "alone", []api.Event{zero})
	a := set(0, 1, 0, "a")
	orders([]api.Event{zero, a, zero}, func(l []api.Event) {
		isLatest(t, "with a later one", l, a)
		isValue(t, "with a later one", l, "a")
	})
}

// P11.1, R1: of events all of whose times and dots are below 0 the latest is told, not the zero event.
func TestBelowZero(t *testing.T) {
	first, second := set(-2, -2, -5, "a"), set(-2, -1, -5, "b")
	third, fourth := set(-1, -9, -5, "c"), set(-9, -9, -4, "d")
	least := set(math.MinInt, math.MinInt, math.MinInt, "least")
	isLatest(t, "the least alone", []api.Event{least}, least)
	isValue(t, "the least alone", []api.Event{least}, "least")
	orders([]api.Event{first, least, second}, func(l []api.Event) {
		isLatest(t, "the number", l, second)
		isValue(t, "the number", l, "b")
	})
	orders([]api.Event{first, second, third}, func(l []api.Event) {
		isLatest(t, "the replica", l, third)
		isValue(t, "the replica", l, "c")
	})
	orders([]api.Event{first, second, third, fourth, least}, func(l []api.Event) {
		isLatest(t, "the time", l, fourth)
		isValue(t, "the time", l, "d")
	})
}

// P11.1, R1: numbers at the ends of what there are: no difference of theirs may be taken.
func TestFarApart(t *testing.T) {
	for _, c := range [][2]api.Event{
		{set(1, 1, math.MinInt, "a"), set(1, 1, math.MaxInt, "b")},
		{set(1, 1, -1, "a"), set(1, 1, math.MaxInt, "b")},
		{set(1, 1, math.MinInt, "a"), set(1, 1, 1, "b")},
		{set(math.MinInt, 1, 5, "a"), set(math.MaxInt, 1, 5, "b")},
		{set(math.MinInt, 1, 5, "a"), set(15, 1, 5, "b")},
		{set(15, 1, 5, "a"), set(16, 1, 5, "b")},
		{set(-1, 1, 5, "a"), set(0, 1, 5, "b")},
		{set(1, math.MinInt, 5, "a"), set(1, math.MaxInt, 5, "b")},
		{set(1, math.MinInt, 5, "a"), set(1, 1, 5, "b")},
		{set(1, 1<<20, 5, "a"), set(1, 1<<20+1, 5, "b")},
	} {
		orders(c[:], func(l []api.Event) {
			isLatest(t, "far apart", l, c[1])
			isValue(t, "far apart", l, "b")
		})
	}
}

// P11.1, R1: events of no kind may be the latest, but are no Set; vectors that can't be play no part.
func TestOthersThatCantBe(t *testing.T) {
	a := set(1, 1, 5, "a")
	for _, kind := range noKinds() {
		no := made(kind, 1, 1, 9, "no")
		noValue(t, "no kind", []api.Event{no})
		isLatest(t, "no kind", []api.Event{no}, no)
		orders([]api.Event{no, a}, func(l []api.Event) {
			isValue(t, "no kind", l, "a")
			isLatest(t, "no kind", l, no)
		})
	}
	for _, v := range []api.VV{{-1}, {math.MinInt, math.MinInt}, {math.MaxInt, math.MaxInt, math.MaxInt}, {15: -9}} {
		b := set(1, 2, 5, "b")
		b.Deps = v
		orders([]api.Event{a, b}, func(l []api.Event) {
			isValue(t, "a vector", l, "b")
			isLatest(t, "a vector", l, b)
		})
	}
}

// P11.1, R1: all of it by the document's words, of lists of events many of which can't be.
func TestManyLists(t *testing.T) {
	for seed := range 20000 {
		s := dice(seed)
		asTold(t, "some", s.junks(9))
		if t.Failed() {
			t.Fatalf("at seed %d", seed)
		}
	}
}

// unlike is a list without those events whose dots stand ahead of them.
func unlike(l []api.Event) []api.Event {
	var m []api.Event
	for _, e := range l {
		if !slices.ContainsFunc(m, func(b api.Event) bool { return b.Dot == e.Dot }) {
			m = append(m, e)
		}
	}
	return m
}

// sameTold holds that two lists tell the same.
func sameTold(t *testing.T, what string, l, m []api.Event) {
	t.Helper()
	a, ok := Latest(l)
	if b, also := Latest(m); a != b || ok != also {
		t.Errorf("%s: Latest of %v: %v, %t; of %v: %v, %t", what, l, a, ok, m, b, also)
	}
	v, ok := Value(l)
	if w, also := Value(m); v != w || ok != also {
		t.Errorf("%s: Value of %v: %q, %t; of %v: %q, %t", what, l, v, ok, m, w, also)
	}
}

// P11.2: each order of few events with unlike dots tells the same.
func TestEachOrder(t *testing.T) {
	for seed := range 300 {
		s := dice(seed)
		l := unlike(s.junks(9))
		l = l[:min(len(l), 6)]
		orders(l, func(m []api.Event) { sameTold(t, "another order", l, m) })
		if t.Failed() {
			t.Fatalf("at seed %d", seed)
		}
	}
}

// P11.2: some orders of many events with unlike dots tell the same.
func TestSomeOrders(t *testing.T) {
	for seed := range 200 {
		s := dice(seed)
		var l []api.Event
		for n := range 300 {
			l = append(l, made(1+s.roll(3), n%16, 1+n/16, s.roll(4), textOf(n)))
		}
		asTold(t, "many", l)
		for range 5 {
			sameTold(t, "another order", l, s.mixed(l))
		}
		if t.Failed() {
			t.Fatalf("at seed %d", seed)
		}
	}
}

// textOf is a text for each number below 65536, unlike those of the others.
func textOf(n int) string { return string([]byte{byte(n >> 8), byte(n)}) }

// latests is the latest one of each of two lists that have one, in their order.
func latests(l, m []api.Event) []api.Event {
	var both []api.Event
	for _, x := range [][]api.Event{l, m} {
		if e, ok := Latest(x); ok {
			both = append(both, e)
		}
	}
	return both
}

// behind holds that of two lists, one behind the other, the latest one is the latest of theirs, and so are their
// Set events.
func behind(t *testing.T, l, m []api.Event) {
	t.Helper()
	all := slices.Concat(l, m)
	asTold(t, "one behind the other", all)
	if both := latests(l, m); len(both) == 0 {
		noLatest(t, "one behind the other", all)
	} else {
		e, _ := plainLatest(both)
		isLatest(t, "one behind the other", all, e)
	}
	if both := latests(sets(l), sets(m)); len(both) == 0 {
		noValue(t, "one behind the other", all)
	} else {
		e, _ := plainLatest(both)
		isValue(t, "one behind the other", all, e.Op.Value)
	}
}

// P11.2: two lists, one behind the other: either of them empty or not, with the latest one in either, or in both.
func TestOneBehindTheOther(t *testing.T) {
	a, b, c := set(1, 1, 5, "a"), set(2, 1, 5, "b"), set(1, 1, 5, "c")
	d := made(api.Del, 2, 1, 9, "")
	few := [][]api.Event{nil, {}, {a}, {b}, {c}, {d}, {a, b}, {b, a}, {a, c}, {c, a}, {a, d}, {d, b}, {d, c, b, a}}
	for _, l := range few {
		for _, m := range few {
			behind(t, l, m)
		}
	}
	isValue(t, "the first list's", slices.Concat([]api.Event{b}, []api.Event{a}), "b")
	isValue(t, "the second list's", slices.Concat([]api.Event{a}, []api.Event{b}), "b")
	isValue(t, "none is later", slices.Concat([]api.Event{a}, []api.Event{c}), "a")
	for seed := range 5000 {
		s := dice(seed)
		l, m := s.junks(4), s.junks(4)
		behind(t, l, m)
		behind(t, m, l)
		if t.Failed() {
			t.Fatalf("at seed %d", seed)
		}
	}
}

// R3: what goes in stays as it is, and what lies behind a list's length is neither read nor written.
func TestWhatGoesInStays(t *testing.T) {
	for seed := range 300 {
		s := dice(seed)
		room := s.junks(9)
		late := set(15, 1<<20, math.MaxInt, "behind")
		room = append(room, late, late)
		l := room[:s.roll(len(room)-1)]
		was := slices.Clone(room)
		asTold(t, "with events behind", l)
		if !slices.Equal(room, was) {
			t.Fatalf("%v became %v", was, room)
		}
	}
}

// R3, R6: what was told stays when the list is changed, and a call hangs on no call ahead of it.
func TestNothingIsKept(t *testing.T) {
	l := []api.Event{set(1, 1, 5, "a"), set(2, 1, 5, "b")}
	e, _ := Latest(l)
	v, _ := Value(l)
	l[1] = set(0, 1, 1, "changed")
	if e != set(2, 1, 5, "b") || v != "b" {
		t.Errorf("%v and %q were told", e, v)
	}
	isLatest(t, "changed", l, l[0])
	isValue(t, "changed", l, "a")
	noLatest(t, "none", nil)
	noValue(t, "none", nil)
	for range 9 {
		isLatest(t, "again", l, l[0])
		isValue(t, "again", l, "a")
	}
}

// R1: a long list is told, too.
func TestLongList(t *testing.T) {
	const n = 200000
	l := make([]api.Event, n)
	for i := range l {
		l[i] = made(1+i%2, i%16, 1+i/16, (i*7919)%n, textOf(i%60000))
	}
	want, text := l[0], l[0]
	for _, e := range l {
		if later(e, want) {
			want = e
		}
		if e.Op.Kind == api.Set && later(e, text) {
			text = e
		}
	}
	// A list this long isn't told with what is wrong.
	if e, ok := Latest(l); e != want || !ok {
		t.Errorf("Latest: %v, %t, not %v", e, ok, want)
	}
	if v, ok := Value(l); v != text.Op.Value || !ok {
		t.Errorf("Value: %q, %t, not %q", v, ok, text.Op.Value)
	}
}
