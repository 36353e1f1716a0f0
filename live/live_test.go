package live

import (
	"math"
	"slices"
	"sort"
	"testing"

	"polyphony/api"
)

// dice is numbers that look like no pattern, the same ones each time.
type dice uint32

func (s *dice) roll(n int) int {
	*s = *s*1664525 + 1013904223
	return int(*s>>8) % n
}

// junk is an event of few dots, keys and fields, so that many are alike in part. It may be one that can't be.
func (s *dice) junk() api.Event {
	var e api.Event
	e.Dot = at(s.roll(3), 1+s.roll(3))
	e.Time = s.roll(3)
	for r := range 3 {
		e.Deps[r] = s.roll(5) - 1
	}
	e.Op = api.Op{Kind: 1 + s.roll(11), Key: []string{"k", "k", "k", "j", ""}[s.roll(5)], Field: []string{"f", "f", "g", ""}[s.roll(4)]}
	e.Op.Value = []string{"v", "w", ""}[s.roll(3)]
	e.Op.Ref = at(s.roll(3), 1+s.roll(3))
	switch s.roll(12) {
	case 0:
		e.Op.Kind = noKinds()[s.roll(len(noKinds()))]
	case 1:
		e.Dot = []api.Dot{{}, at(-1, 1), at(16, 1), at(0, -1), at(1, top+1), at(math.MinInt, math.MaxInt)}[s.roll(6)]
	case 2:
		e.Deps = api.VV{math.MinInt, math.MaxInt, top + 1}
	case 3:
		e.Time = []int{math.MinInt, -1, math.MaxInt}[s.roll(3)]
	}
	return e
}

// later is whether b is later than a by layer 5's words.
func later(b, a api.Event) bool {
	return b.Time > a.Time || b.Time == a.Time && (b.Dot.R > a.Dot.R || b.Dot.R == a.Dot.R && b.Dot.N > a.Dot.N)
}

// plainAll is a list's live events by the document's words: each event held against each other one.
func plainAll(l []api.Event) []api.Event {
	var m []api.Event
	for _, a := range l {
		if slices.Contains(adding(), a.Op.Kind) && !slices.ContainsFunc(l, func(b api.Event) bool { return ends(b, a) }) {
			m = append(m, a)
		}
	}
	sort.SliceStable(m, func(i, j int) bool { return later(m[j], m[i]) })
	return m
}

// plainType is a key's type by the document's words: of the live ones, in the list's order, one takes the
// place of another unless that is later.
func plainType(l []api.Event, key string) int {
	var is api.Event
	for _, a := range l {
		if a.Op.Key == key && slices.Contains(plainAll(l), a) && (is.Op.Kind == 0 || !later(is, a)) {
			is = a
		}
	}
	return typeAdded(is.Op.Kind)
}

// typeAdded is the type of what a kind adds; 0 for what adds nothing.
func typeAdded(kind int) int { return slices.Index([]int{0, 1, 2, 3, 5, 7, 9}, kind) }

// plainOf is what there is of a key by the document's words.
func plainOf(l []api.Event, key string) []api.Event {
	is := plainType(l, key)
	return slices.DeleteFunc(plainAll(l), func(e api.Event) bool { return e.Op.Key != key || typeAdded(e.Op.Kind) != is })
}

// plainKeys is the keys that there are by the document's words.
func plainKeys(l []api.Event) []string {
	var keys []string
	for _, e := range l {
		if plainType(l, e.Op.Key) != 0 && !slices.Contains(keys, e.Op.Key) {
			keys = append(keys, e.Op.Key)
		}
	}
	sort.Strings(keys)
	return keys
}

// tells holds All against what it shall tell.
func tells(t *testing.T, what string, l []api.Event, want ...api.Event) {
	t.Helper()
	if got := All(l); !slices.Equal(got, want) {
		t.Errorf("%s: All of %v: %v, not %v", what, l, got, want)
	}
}

// keyed holds Type and Of of a key against what they shall tell.
func keyed(t *testing.T, what string, l []api.Event, key string, is int, want ...api.Event) {
	t.Helper()
	if got := Type(l, key); got != is {
		t.Errorf("%s: Type of %q in %v: %d, not %d", what, key, l, got, is)
	}
	if got := Of(l, key); !slices.Equal(got, want) {
		t.Errorf("%s: Of %q in %v: %v, not %v", what, key, l, got, want)
	}
}

// hasKeys holds Keys against what they shall be.
func hasKeys(t *testing.T, what string, l []api.Event, want ...string) {
	t.Helper()
	if got := Keys(l); !slices.Equal(got, want) {
		t.Errorf("%s: Keys of %v: %q, not %q", what, l, got, want)
	}
}

// asTold holds all that is told of a list against the document's words.
func asTold(t *testing.T, what string, l []api.Event) {
	t.Helper()
	tells(t, what, l, plainAll(l)...)
	for _, key := range []string{"k", "j", "", "f", "nowhere"} {
		keyed(t, what, l, key, plainType(l, key), plainOf(l, key)...)
	}
	hasKeys(t, what, l, plainKeys(l)...)
}

// made is the event with a dot at a time, having seen a vector.
func made(r, n, time int, seen api.VV, op api.Op) api.Event {
	return api.Event{Dot: at(r, n), Time: time, Deps: seen, Op: op}
}

// op is an operation of a key and a field.
func op(kind int, key, field string) api.Op { return api.Op{Kind: kind, Key: key, Field: field} }

// P10.1: the document's example.
func TestExample(t *testing.T) {
	a := made(0, 1, 1, api.VV{}, api.Op{Kind: api.Set, Key: "k", Value: "v"})
	seen := made(1, 1, 2, api.VV{1}, api.Op{Kind: api.Set, Key: "k", Value: "w"})
	unseen := made(1, 1, 2, api.VV{}, api.Op{Kind: api.Set, Key: "k", Value: "w"})
	tells(t, "seen", []api.Event{a, seen}, seen)
	keyed(t, "seen", []api.Event{a, seen}, "k", api.Text, seen)
	hasKeys(t, "seen", []api.Event{a, seen}, "k")
	tells(t, "not seen", []api.Event{a, unseen}, a, unseen)
	keyed(t, "not seen", []api.Event{a, unseen}, "k", api.Text, a, unseen)
	hasKeys(t, "not seen", []api.Event{a, unseen}, "k")
}

// P10.1, R1: of no events nothing is told.
func TestNoEvents(t *testing.T) {
	for _, l := range [][]api.Event{nil, {}, make([]api.Event, 0, 9)} {
		tells(t, "none", l)
		hasKeys(t, "none", l)
		for _, key := range []string{"", "k"} {
			keyed(t, "none", l, key, api.None)
		}
	}
}

// P10.1: of one event that adds something it is told, with its type; of one that takes away nothing is.
func TestOneEvent(t *testing.T) {
	types := map[int]int{api.Set: 1, api.Incr: 2, api.SAdd: 3, api.HSet: 4, api.ZAdd: 5, api.Push: 6}
	for _, kind := range append(kinds(), noKinds()...) {
		for _, key := range []string{"k", "", "\x00", "a long key"} {
			e := made(3, 1, 5, api.VV{7}, op(kind, key, "f"))
			l := []api.Event{e}
			is := types[kind]
			var want []api.Event
			var keys []string
			if is != 0 {
				want, keys = l, []string{key}
			}
			tells(t, "one", l, want...)
			keyed(t, "one", l, key, is, want...)
			keyed(t, "one, of another key", l, key+"x", api.None)
			keyed(t, "one, of its field", l, "f", api.None)
			hasKeys(t, "one", l, keys...)
		}
	}
}

// P10.1: All is the earliest first: by the time, then by the replica, then by the number.
func TestAllInOrder(t *testing.T) {
	incr := api.Op{Kind: api.Incr, Key: "k", Num: 1}
	want := []api.Event{
		made(7, 9, math.MinInt, api.VV{}, incr), made(7, 9, -1, api.VV{}, incr),
		made(-1, 9, 0, api.VV{}, incr), made(0, 9, 0, api.VV{}, incr), made(1, -2, 0, api.VV{}, incr),
		made(1, 2, 0, api.VV{}, incr), made(1, 10, 0, api.VV{}, incr), made(2, 1, 0, api.VV{}, incr),
		made(15, 1, 0, api.VV{}, incr), made(0, 1, 1, api.VV{}, incr), made(0, 2, 10, api.VV{}, incr),
		made(0, 3, math.MaxInt, api.VV{}, incr),
	}
	for seed := range 200 {
		s, l := dice(seed), slices.Clone(want)
		for i := range l {
			j := i + s.roll(len(l)-i)
			l[i], l[j] = l[j], l[i]
		}
		tells(t, "mixed", l, want...)
		keyed(t, "mixed", l, "k", api.Tally, want...)
	}
}

// orders calls a function with each order of events.
func orders(l []api.Event, do func(l []api.Event)) {
	l = slices.Clone(l)
	var from func(n int)
	from = func(n int) {
		if n == len(l) {
			do(slices.Clone(l))
			return
		}
		for i := n; i < len(l); i++ {
			l[n], l[i] = l[i], l[n]
			from(n + 1)
			l[n], l[i] = l[i], l[n]
		}
	}
	from(0)
}

// P10.1: of events of which none is later All and Of keep the list's order, and the last one tells the type.
func TestNoneIsLater(t *testing.T) {
	text := made(1, 1, 5, api.VV{}, api.Op{Kind: api.Set, Key: "k", Value: "v"})
	other := made(1, 1, 5, api.VV{}, api.Op{Kind: api.Set, Key: "k", Value: "w"})
	tally := made(1, 1, 5, api.VV{}, api.Op{Kind: api.Incr, Key: "k", Num: 3})
	list := made(1, 1, 5, api.VV{}, api.Op{Kind: api.Push, Key: "k", Value: "v"})
	orders([]api.Event{text, other, tally, list}, func(l []api.Event) {
		tells(t, "one dot", l, l...)
		is := typeAdded(l[3].Op.Kind)
		keyed(t, "one dot", l, "k", is, slices.DeleteFunc(slices.Clone(l), func(e api.Event) bool { return typeAdded(e.Op.Kind) != is })...)
		hasKeys(t, "one dot", l, "k")
	})
	ahead, behind := tally, tally
	ahead.Time, behind.Time = 4, 6
	orders([]api.Event{ahead, text, other, behind}, func(l []api.Event) {
		first, second := text, other
		if slices.Index(l, other) < slices.Index(l, text) {
			first, second = other, text
		}
		tells(t, "between", l, ahead, first, second, behind)
		keyed(t, "between", l, "k", api.Tally, ahead, behind)
	})
}

// P10.1: many that none is later than: a sort that isn't stable would mix them.
func TestManyOfWhichNoneIsLater(t *testing.T) {
	var l, want []api.Event
	for i := range 500 {
		l = append(l, made(1, 1, i%2, api.VV{}, api.Op{Kind: api.Incr, Key: "k", Num: i}))
	}
	for _, time := range []int{0, 1} {
		for _, e := range l {
			if e.Time == time {
				want = append(want, e)
			}
		}
	}
	tells(t, "many", l, want...)
	keyed(t, "many", l, "k", api.Tally, want...)
}

// P10.1: a key has the type of the latest of its live events; what was ended, however late, plays no part.
func TestTypeOfSeveral(t *testing.T) {
	text := made(0, 1, 5, api.VV{}, op(api.Set, "k", ""))
	tally := made(1, 1, 6, api.VV{}, op(api.Incr, "k", ""))
	group := made(2, 1, 7, api.VV{}, op(api.SAdd, "k", "f"))
	hash := made(3, 1, 8, api.VV{}, op(api.HSet, "k", "f"))
	score := made(4, 1, 9, api.VV{}, op(api.ZAdd, "k", "f"))
	list := made(5, 1, 10, api.VV{}, op(api.Push, "k", ""))
	l := []api.Event{list, text, score, tally, hash, group}
	all := []api.Event{text, tally, group, hash, score, list}
	tells(t, "six types", l, all...)
	keyed(t, "six types", l, "k", api.List, list)
	first := made(6, 1, 1, api.VV{}, op(api.Push, "k", ""))
	keyed(t, "an early one of the type", append(l, first), "k", api.List, first, list)

	for i, end := range []api.Op{
		{Kind: api.LRem, Key: "k", Ref: list.Dot}, op(api.ZRem, "k", "f"), op(api.HDel, "k", "f"), op(api.SRem, "k", "f"),
	} {
		l = append(l, made(7, 1+i, 99, api.VV{1, 1, 1, 1, 1, 1}, end))
		left := all[:5-i]
		tells(t, "fewer", l, left...)
		keyed(t, "fewer", l, "k", 5-i, left[4-i])
		hasKeys(t, "fewer", l, "k")
	}
	l = append(l, made(8, 1, 99, api.VV{0, 1}, op(api.Del, "k", "")))
	tells(t, "the text alone", l, text)
	keyed(t, "the text alone", l, "k", api.Text, text)
	l = append(l, made(8, 2, 0, api.VV{1}, op(api.Del, "k", "")))
	tells(t, "all ended", l)
	keyed(t, "all ended", l, "k", api.None)
	hasKeys(t, "all ended", l)
}

// P10.1: at one time the replica's number tells the type, and then the event's own.
func TestTypeAtOneTime(t *testing.T) {
	text := made(1, 9, 5, api.VV{}, op(api.Set, "k", ""))
	tally := made(2, 1, 5, api.VV{}, op(api.Incr, "k", ""))
	hash := made(2, 2, 5, api.VV{}, op(api.HSet, "k", "f"))
	orders([]api.Event{text, tally}, func(l []api.Event) { keyed(t, "the replica", l, "k", api.Tally, tally) })
	orders([]api.Event{text, tally, hash}, func(l []api.Event) { keyed(t, "the number", l, "k", api.Hash, hash) })
}

// P10.1: side by side with what takes it away, a thing is there; seen by it, not; added anew behind, again.
func TestAddedAndTakenAway(t *testing.T) {
	for _, c := range [][2]int{{api.SAdd, api.SRem}, {api.HSet, api.HDel}, {api.ZAdd, api.ZRem}, {api.Set, api.Del}, {api.Incr, api.Del}, {api.Push, api.LRem}} {
		add := made(0, 1, 5, api.VV{}, op(c[0], "k", "f"))
		take := made(1, 1, 4, api.VV{}, op(c[1], "k", "f"))
		take.Op.Ref = add.Dot
		is := typeAdded(c[0])
		orders([]api.Event{add, take}, func(l []api.Event) { keyed(t, "side by side", l, "k", is, add) })
		take.Deps = api.VV{1}
		orders([]api.Event{add, take}, func(l []api.Event) { keyed(t, "seen", l, "k", api.None) })
		anew := made(1, 2, 3, api.VV{1, 1}, op(c[0], "k", "f"))
		orders([]api.Event{add, take, anew}, func(l []api.Event) { keyed(t, "anew", l, "k", is, anew) })
	}
}

// P10.1: of those that might end an event one that does is enough: neither the first, the last, nor the latest must.
func TestOneOfManyEnds(t *testing.T) {
	add := made(2, 2, 5, api.VV{}, op(api.SAdd, "k", "f"))
	orders([]api.Event{
		add,
		made(0, 1, 9, api.VV{9, 9, 1, 9}, op(api.SRem, "k", "f")),
		made(1, 1, 2, api.VV{0, 0, 2, 0}, op(api.SRem, "k", "f")),
		made(3, 1, 1, api.VV{0, 0, 0, 0}, op(api.SRem, "k", "f")),
		made(4, 1, 8, api.VV{0, 0, 3, 0}, op(api.SRem, "k", "g")),
	}, func(l []api.Event) {
		tells(t, "one does", l)
		l = slices.DeleteFunc(l, func(e api.Event) bool { return e.Dot.R == 1 })
		tells(t, "none does", l, add)
	})
}

// P10.1: several keys, each by its own events.
func TestSeveralKeys(t *testing.T) {
	a := made(0, 1, 1, api.VV{}, op(api.Set, "a", ""))
	b := made(0, 2, 2, api.VV{1}, op(api.SAdd, "b", "f"))
	c := made(0, 3, 3, api.VV{2}, op(api.HSet, "c", "f"))
	d := made(0, 4, 4, api.VV{3}, op(api.Set, "b", ""))
	noC := made(0, 5, 5, api.VV{4}, op(api.Del, "c", ""))
	e := made(0, 6, 6, api.VV{5}, op(api.Push, "", ""))
	l := []api.Event{e, d, noC, c, b, a}
	tells(t, "four", l, a, b, d, e)
	keyed(t, "a", l, "a", api.Text, a)
	keyed(t, "b", l, "b", api.Text, d)
	keyed(t, "c", l, "c", api.None)
	keyed(t, "the empty one", l, "", api.List, e)
	keyed(t, "none", l, "d", api.None)
	hasKeys(t, "four", l, "", "a", "b")
}

// P10.1: the empty text is a key as others are.
func TestEmptyKey(t *testing.T) {
	add := made(0, 1, 1, api.VV{}, op(api.SAdd, "", "f"))
	side := made(1, 1, 1, api.VV{}, op(api.Del, "k", ""))
	l := []api.Event{add, side}
	keyed(t, "there", l, "", api.Group, add)
	hasKeys(t, "there", l, "")
	side.Deps = api.VV{1}
	keyed(t, "another key's Del", []api.Event{add, side}, "", api.Group, add)
	side.Op.Key = ""
	keyed(t, "its own Del", []api.Event{add, side}, "", api.None)
	hasKeys(t, "its own Del", []api.Event{add, side})
}

// P10.1: keys rise byte by byte, and stand there once, however many events and types they have.
func TestKeysByteByByte(t *testing.T) {
	want := []string{"", "\x00", "\x00\x00", "\x01", " ", "0", "10", "9", "A", "Z", "a", "a\x00", "a ", "aa", "ab", "b", "\x7f", "\x80", "é", "ÿ", "日本", "\xff", "\xff\x00", "\xff\xff"}
	for seed := range 50 {
		s := dice(seed)
		var l []api.Event
		for i := range 3 * len(want) {
			key := want[(i*7+seed)%len(want)]
			l = append(l, made(s.roll(16), 1+i, s.roll(9), api.VV{}, op(adding()[s.roll(6)], key, "f")))
		}
		l = append(l, made(0, top, 0, api.VV{}, op(api.Del, "taken away", "")))
		hasKeys(t, "many", l, want...)
	}
}

// P10.1, R1: events that can't be are told, or end others, by the words alone.
func TestEventsThatCantBe(t *testing.T) {
	set := op(api.Set, "k", "")
	for _, d := range []api.Dot{{}, at(-1, 1), at(16, 1), at(0, -1), at(0, top+1), at(math.MaxInt, math.MinInt)} {
		e := made(d.R, d.N, 5, api.VV{}, set)
		del := made(1, 1, 6, api.VV{math.MaxInt, math.MaxInt}, op(api.Del, "k", ""))
		tells(t, "a dot that can't be is covered by none", []api.Event{e, del}, e)
		keyed(t, "a dot that can't be", []api.Event{e, del}, "k", api.Text, e)
	}
	good := made(0, 1, 5, api.VV{}, set)
	tells(t, "a vector below 0", []api.Event{good, made(1, 1, 6, api.VV{-1, math.MinInt}, set)}, good, made(1, 1, 6, api.VV{-1, math.MinInt}, set))
	tells(t, "a vector above all", []api.Event{good, made(16, 0, -6, api.VV{math.MaxInt}, op(api.Del, "k", ""))})
	tells(t, "one vector above all, one below 0", []api.Event{
		good,
		made(1, 1, 6, api.VV{math.MaxInt}, op(api.Del, "k", "")),
		made(1, 2, 7, api.VV{math.MinInt}, op(api.Del, "k", "")),
	})
	for _, kind := range noKinds() {
		tells(t, "no kind", []api.Event{made(2, 1, 9, api.VV{9, 9, 9}, op(kind, "k", "")), good}, good)
		keyed(t, "no kind", []api.Event{good, made(2, 1, 9, api.VV{9, 9, 9}, op(kind, "k", ""))}, "k", api.Text, good)
		hasKeys(t, "no kind", []api.Event{good, made(2, 1, 9, api.VV{9, 9, 9}, op(kind, "j", ""))}, "k")
	}
}

// P10.1: an event whose Deps has its own dot, as none can be, is ended by one of the list: itself.
func TestEventThatEndsItself(t *testing.T) {
	for _, kind := range adding() {
		e := made(0, 1, 5, api.VV{1}, op(kind, "k", "f"))
		if kind == api.Incr || kind == api.Push {
			tells(t, "ends none of its kind", []api.Event{e}, e)
			continue
		}
		tells(t, "ends itself", []api.Event{e})
		keyed(t, "ends itself", []api.Event{e}, "k", api.None)
	}
}

// P10.1: two unlike events with one dot are two: what ends the one by its field or key leaves the other one.
func TestOneDotTwoEvents(t *testing.T) {
	f := made(0, 1, 5, api.VV{}, op(api.SAdd, "k", "f"))
	g := made(0, 1, 5, api.VV{}, op(api.SAdd, "k", "g"))
	j := made(0, 1, 4, api.VV{}, op(api.SAdd, "j", "f"))
	rem := made(1, 1, 6, api.VV{1}, op(api.SRem, "k", "f"))
	tells(t, "all three", []api.Event{f, g, j}, j, f, g)
	tells(t, "the other order", []api.Event{g, f, j}, j, g, f)
	orders([]api.Event{f, g, j, rem}, func(l []api.Event) {
		tells(t, "without the one", l, j, g)
		keyed(t, "without the one", l, "k", api.Group, g)
		keyed(t, "without the one", l, "j", api.Group, j)
		hasKeys(t, "without the one", l, "j", "k")
	})
}

// P10.1, R1: all of it by the document's words, of lists of events many of which can't be.
func TestManyLists(t *testing.T) {
	for seed := range 6000 {
		s := dice(seed)
		var l []api.Event
		for range s.roll(9) {
			l = append(l, s.junk())
			if s.roll(6) == 0 {
				l = append(l, l[s.roll(len(l))])
			}
		}
		asTold(t, "some", l)
		if t.Failed() {
			t.Fatalf("at seed %d", seed)
		}
	}
}

// P10.1: a long list of one key, each event of which replaces the one ahead of it or takes it away.
func TestLongList(t *testing.T) {
	const n = 40000
	var l []api.Event
	for i := range n {
		l = append(l, made(0, i+1, i, api.VV{i}, op(api.Set, "k", "")))
	}
	// A list this long isn't told with what is wrong.
	if m := All(l); !slices.Equal(m, l[n-1:]) {
		t.Errorf("texts: %d are live", len(m))
	}
	l = nil
	for i := range n {
		push := made(0, 2*i+1, i, api.VV{2 * i}, op(api.Push, "k", ""))
		l = append(l, push, made(0, 2*i+2, i, api.VV{2*i + 1}, api.Op{Kind: api.LRem, Key: "k", Ref: push.Dot}))
	}
	if m := All(l[:2*n-1]); !slices.Equal(m, l[2*n-2:2*n-1]) {
		t.Errorf("a list: %d are live", len(m))
	}
	if m := All(l); len(m) != 0 {
		t.Errorf("a list of none: %d are live", len(m))
	}
}
