package member

import (
	"math"
	"slices"
	"strings"
	"testing"

	"polyphony/api"
)

// dice is numbers that look like no pattern, the same ones each time.
type dice uint32

func (s *dice) roll(n int) int {
	*s = *s*1664525 + 1013904223
	return int(*s>>8) % n
}

// mixed is a list in another order.
func (s *dice) mixed(l []api.Event) []api.Event {
	l = slices.Clone(l)
	for i := range l {
		j := i + s.roll(len(l)-i)
		l[i], l[j] = l[j], l[i]
	}
	return l
}

// noKinds is numbers that are no kind, some of them alike SAdd in their lowest bits.
func noKinds() []int {
	return []int{0, 12, 13, -1, -3, -11, 1<<8 + 3, 1<<16 + 3, 1<<32 + 3, math.MinInt, math.MinInt + 3, math.MaxInt}
}

// texts is texts that rise byte by byte: the empty one first, beginnings ahead of what goes on, and bytes of 128 and
// more behind those below.
func texts() []string {
	return []string{
		"", "\x00", "\x00\x00", "\x00\x01", "\x01", "\n", " ", "0", "1", "10", "2", "9", "A", "B", "Z", "_",
		"a", "a\x00", "a\x00b", "a ", "aA", "aa", "aaa", "aab", "ab", "aba", "abb", "a\x7f", "a\x80", "a\xff",
		"b", "ba", "f", "z", "\x7f", "\x80", "\x80\x00", "\x80\x80", "\x81", "\xc3", "\xc3\xa4", "\xc3\xa4a", "\xc3\xa5",
		"\xe6\x97\xa5", "\xf0\x9f\x98\x80", "\xfe", "\xff", "\xff\x00", "\xff\xfe", "\xff\xff",
	}
}

// made is an event of a kind.
func made(kind, r, n int, field string) api.Event {
	return api.Event{Dot: api.Dot{R: r, N: n}, Time: 5, Op: api.Op{Kind: kind, Key: "k", Field: field}}
}

// add is an SAdd event.
func add(r, n int, field string) api.Event { return made(api.SAdd, r, n, field) }

// dot is the dot of a replica and a number.
func dot(r, n int) api.Dot { return api.Dot{R: r, N: n} }

// junk is an event that may be one that can't be.
func (s *dice) junk() api.Event {
	e := add(s.roll(4), 1+s.roll(4), []string{"", "a", "aa", "ab", "b", "\xff"}[s.roll(6)])
	e.Time, e.Deps, e.Op.Key = s.roll(3), api.VV{s.roll(4), s.roll(4)}, []string{"k", "j", ""}[s.roll(3)]
	if s.roll(3) == 0 {
		e.Op.Field = texts()[s.roll(len(texts()))]
	}
	if s.roll(3) == 0 {
		e.Op.Kind = 1 + s.roll(11)
	}
	switch s.roll(8) {
	case 0:
		e.Op.Kind = noKinds()[s.roll(len(noKinds()))]
	case 1:
		e.Dot.R = []int{-1, -2, 15, 16, 17, 1 << 32, math.MinInt, math.MaxInt}[s.roll(8)]
	case 2:
		e.Dot.N = []int{0, -1, -2, 1 << 20, 1<<20 + 1, 1 << 32, math.MinInt, math.MaxInt}[s.roll(8)]
	case 3:
		e.Deps, e.Time = api.VV{math.MinInt, math.MaxInt, -1}, []int{math.MinInt, -1, math.MaxInt}[s.roll(3)]
	case 4:
		e.Op.Value, e.Op.Num, e.Op.Ref = "a", s.roll(9)-4, dot(s.roll(4), s.roll(4))
	case 5:
		e.Op.Field += strings.Repeat("l", 64+s.roll(3))
	}
	return e
}

// junks is a list of such events, some of which stand there twice.
func (s *dice) junks(most int) []api.Event {
	var l []api.Event
	for range s.roll(most + 1) {
		l = append(l, s.junk())
		if s.roll(5) == 0 {
			l = append(l, l[s.roll(len(l))])
		}
	}
	return l
}

// lower tells whether a text is ahead of another one byte by byte, as the document's words have it.
func lower(a, b string) bool {
	for i := range min(len(a), len(b)) {
		if a[i] != b[i] {
			return a[i] < b[i]
		}
	}
	return len(a) < len(b)
}

// ahead tells whether a dot is ahead of another one, by R, then by N.
func ahead(a, b api.Dot) bool { return a.R < b.R || a.R == b.R && a.N < b.N }

// laid is a rising list with something at its place, if it isn't there yet.
func laid[T comparable](l []T, x T, before func(a, b T) bool) []T {
	at := 0
	for at < len(l) && before(l[at], x) {
		at++
	}
	if at < len(l) && l[at] == x {
		return l
	}
	return slices.Insert(l, at, x)
}

// plainAll is All by the document's words.
func plainAll(l []api.Event) []string {
	var all []string
	for _, e := range l {
		if e.Op.Kind == 3 {
			all = laid(all, e.Op.Field, lower)
		}
	}
	return all
}

// plainDots is Dots by the document's words.
func plainDots(l []api.Event, s string) []api.Dot {
	var dots []api.Dot
	for _, e := range l {
		if e.Op.Kind == 3 && e.Op.Field == s {
			dots = laid(dots, e.Dot, ahead)
		}
	}
	return dots
}

// isAll holds All against what it shall tell, and Has with it: of each that is told, and of some that aren't.
func isAll(t *testing.T, what string, l []api.Event, want ...string) {
	t.Helper()
	if got := All(l); !slices.Equal(got, want) {
		t.Errorf("%s: All of %v: %q, not %q", what, few(l), few(got), few(want))
	}
	for _, s := range want {
		isHas(t, what, l, s, true)
	}
	for _, s := range []string{"", "a", "k", "none", "\xff"} {
		isHas(t, what, l, s, slices.Contains(want, s))
	}
}

// isHas holds Has against what it shall tell.
func isHas(t *testing.T, what string, l []api.Event, s string, want bool) {
	t.Helper()
	if got := Has(l, s); got != want {
		t.Errorf("%s: Has of %q of %v: %t", what, s, few(l), got)
	}
}

// isDots holds Dots against what it shall tell, and Has with it.
func isDots(t *testing.T, what string, l []api.Event, s string, want ...api.Dot) {
	t.Helper()
	if got := Dots(l, s); !slices.Equal(got, want) {
		t.Errorf("%s: Dots of %q of %v: %v, not %v", what, s, few(l), few(got), few(want))
	}
	isHas(t, what, l, s, len(want) > 0)
}

// few is a list's first elements: a long one isn't told whole with what is wrong.
func few[T any](l []T) []T { return l[:min(len(l), 9)] }

// asTold holds all that is told of a list against the document's words: Has and Dots of each Field that there is,
// be it of SAdd events or of others, and of each text of the tests.
func asTold(t *testing.T, what string, l []api.Event) {
	t.Helper()
	isAll(t, what, l, plainAll(l)...)
	ask := texts()
	for _, e := range l {
		ask = append(ask, e.Op.Field)
	}
	slices.Sort(ask)
	for _, s := range slices.Compact(ask) {
		isDots(t, what, l, s, plainDots(l, s)...)
	}
}

// orders calls a function with each order of events.
func orders(l []api.Event, do func(l []api.Event)) {
	l = slices.Clone(l)
	var from func(n int)
	from = func(n int) {
		if n == len(l) {
			do(slices.Clone(l))
			return
		}
		for i := n; i < len(l); i++ {
			l[n], l[i] = l[i], l[n]
			from(n + 1)
			l[n], l[i] = l[i], l[n]
		}
	}
	from(0)
}

// P13.1: the document's example.
func TestExample(t *testing.T) {
	l := []api.Event{add(0, 1, "b"), add(0, 2, "a"), add(1, 1, "b")}
	isAll(t, "the example", l, "a", "b")
	isDots(t, "the example", l, "a", dot(0, 2))
	isDots(t, "the example", l, "b", dot(0, 1), dot(1, 1))
	isDots(t, "the example", l, "c")
}

// P13.1, R1, R4: of no events there are no members, be the list nil or empty; not even the empty text is one.
func TestNoEvents(t *testing.T) {
	for _, l := range [][]api.Event{nil, {}, make([]api.Event, 0, 9), []api.Event{add(1, 1, "a")}[:0]} {
		isAll(t, "none", l)
		for _, s := range texts() {
			isDots(t, "none", l, s)
		}
	}
}

// P13.1: one event, with each text as its Field: this one is a member, and no other.
func TestOneEvent(t *testing.T) {
	for i, s := range texts() {
		l := []api.Event{add(i%16, 1+i, s)}
		isAll(t, "one", l, s)
		for _, other := range texts() {
			if other == s {
				isDots(t, "one", l, s, dot(i%16, 1+i))
			} else {
				isDots(t, "one", l, other)
			}
		}
	}
}

// P13.1: several events, of one Field and of several.
func TestSeveralEvents(t *testing.T) {
	one := []api.Event{add(1, 2, "a"), add(0, 7, "a"), add(1, 1, "a")}
	isAll(t, "of one Field", one, "a")
	isDots(t, "of one Field", one, "a", dot(0, 7), dot(1, 1), dot(1, 2))
	isDots(t, "of one Field", one, "")
	several := []api.Event{add(3, 1, "c"), add(2, 1, "a"), add(1, 1, "b"), add(0, 1, "c"), add(0, 2, "a")}
	isAll(t, "of several", several, "a", "b", "c")
	isDots(t, "of several", several, "a", dot(0, 2), dot(2, 1))
	isDots(t, "of several", several, "b", dot(1, 1))
	isDots(t, "of several", several, "c", dot(0, 1), dot(3, 1))
}

// P13.1: the order is byte by byte: each two texts of those that rise, and all of them at once.
func TestRising(t *testing.T) {
	rising := texts()
	var all []api.Event
	for i, a := range rising {
		all = append(all, add(0, 1+i, a))
		for _, b := range rising[i+1:] {
			isAll(t, "two", []api.Event{add(0, 1, a), add(0, 2, b)}, a, b)
			isAll(t, "two, the greater one first", []api.Event{add(0, 1, b), add(0, 2, a)}, a, b)
		}
	}
	isAll(t, "all", all, rising...)
	slices.Reverse(all)
	isAll(t, "all, the greatest first", all, rising...)
}

// P13.1: each byte is told apart, and rises as a number from 0 to 255, alone and behind others.
func TestEachByte(t *testing.T) {
	for _, ahead := range []string{"", "a", "\xff", "\x00\x00", strings.Repeat("m", 63)} {
		var l []api.Event
		var want []string
		for b := range 256 {
			s := ahead + string([]byte{byte(b)})
			want = append(want, s)
			l = append(l, add(1, 256-b, s))
		}
		for _, m := range [][]api.Event{l, slices.Concat(l[128:], l[:128]), slices.Concat(l[200:], l)} {
			isAll(t, "each byte", m, want...)
		}
		for b, s := range want {
			isDots(t, "each byte", l, s, dot(1, 256-b))
		}
	}
}

// P13.1: the empty text is a member, if an SAdd event has it as its Field, and only then.
func TestEmptyField(t *testing.T) {
	empty, a := add(2, 1, ""), add(1, 1, "a")
	isAll(t, "alone", []api.Event{empty}, "")
	orders([]api.Event{empty, a, empty}, func(l []api.Event) {
		isAll(t, "beside another one", l, "", "a")
		isDots(t, "beside another one", l, "", dot(2, 1))
	})
	isAll(t, "not there", []api.Event{a}, "a")
	isDots(t, "not there", []api.Event{a}, "")
	isDots(t, "of a Set", []api.Event{a, made(api.Set, 2, 1, "")}, "")
}

// P13.1: Fields of which one is another one's beginning, that are unlike in one byte alone, or in a letter's size.
func TestAlikeFields(t *testing.T) {
	l := []api.Event{add(0, 1, "ab"), add(0, 2, "abc"), add(0, 3, "abd"), add(0, 4, "Ab"), add(0, 5, "ab\x00"), add(0, 6, "bb")}
	isAll(t, "alike", l, "Ab", "ab", "ab\x00", "abc", "abd", "bb")
	for _, e := range l {
		isDots(t, "alike", l, e.Op.Field, e.Dot)
	}
	for _, s := range []string{"a", "b", "AB", "aB", "ab ", " ab", "abcd", "abe", "c", "\x00", "ab\x00\x00", "abcabd"} {
		isDots(t, "not there", l, s)
	}
	long := strings.Repeat("x", 63)
	for i := range 64 {
		one, other := long[:i]+"a"+long[i:], long[:i]+"b"+long[i:]
		m := []api.Event{add(1, 2, other), add(1, 1, one)}
		isAll(t, "one byte", m, one, other)
		isDots(t, "one byte", m, one, dot(1, 1))
		isDots(t, "one byte", m, other, dot(1, 2))
		isDots(t, "one byte", m, long[:i]+"c"+long[i:])
	}
}

// P13.1: events of one Field with one dot, with one R and several N, with one N and several R, and of all replicas.
func TestDotsOfOneField(t *testing.T) {
	for _, c := range []struct {
		what string
		want []api.Dot
	}{
		{"one dot", []api.Dot{dot(3, 4)}},
		{"one R", []api.Dot{dot(3, 1), dot(3, 2), dot(3, 9), dot(3, 10), dot(3, 1<<20)}},
		{"one N", []api.Dot{dot(0, 7), dot(2, 7), dot(9, 7), dot(10, 7), dot(15, 7)}},
		{"R ahead of N", []api.Dot{dot(0, 1<<20), dot(1, 9), dot(1, 10), dot(15, 1)}},
		{"alike when turned", []api.Dot{dot(1, 2), dot(2, 1)}},
		{"below 0", []api.Dot{dot(-2, 5), dot(-1, -2), dot(-1, -1), dot(0, -1), dot(0, 0)}},
		{"far apart", []api.Dot{dot(math.MinInt, 1), dot(0, math.MinInt), dot(0, math.MaxInt), dot(16, 1), dot(math.MaxInt, 1)}},
	} {
		var l []api.Event
		for _, d := range c.want {
			l = append(l, add(d.R, d.N, "f"))
		}
		orders(l, func(m []api.Event) {
			isAll(t, c.what, m, "f")
			isDots(t, c.what, m, "f", c.want...)
			isDots(t, c.what+", twice", slices.Concat(m, l), "f", c.want...)
			isDots(t, c.what+", another one", m, "g")
		})
	}
}

// P13.1: a dot is told once, however unlike the events are that have it; of two Fields each has it.
func TestOneDot(t *testing.T) {
	a, b, c := add(1, 1, "f"), add(1, 1, "f"), add(1, 1, "g")
	b.Time, b.Deps, b.Op.Key = 9, api.VV{3: 3}, "j"
	orders([]api.Event{a, b, c, add(0, 2, "f")}, func(l []api.Event) {
		isAll(t, "one dot", l, "f", "g")
		isDots(t, "one dot", l, "f", dot(0, 2), dot(1, 1))
		isDots(t, "one dot", l, "g", dot(1, 1))
	})
}

// P13.1: nothing but the Kind and the Field counts, and for Dots the dot: not the key, the time, nor what was seen.
func TestNothingElseCounts(t *testing.T) {
	changes := []func(e *api.Event){
		func(e *api.Event) { e.Op.Key = "j" },
		func(e *api.Event) { e.Op.Key = "" },
		func(e *api.Event) { e.Op.Key = strings.Repeat("k", 65) },
		func(e *api.Event) { e.Op.Value = "g" },
		func(e *api.Event) { e.Op.Num = math.MinInt },
		func(e *api.Event) { e.Op.Ref = dot(6, 1) },
		func(e *api.Event) { e.Time = 0 },
		func(e *api.Event) { e.Time = -1 },
		func(e *api.Event) { e.Time = math.MinInt },
		func(e *api.Event) { e.Time = math.MaxInt },
		func(e *api.Event) { e.Deps = api.VV{6: 9} },
		func(e *api.Event) { e.Deps = api.VV{-1, math.MinInt, math.MaxInt} },
	}
	plain := add(6, 1, "f")
	l := []api.Event{plain}
	for i, change := range changes {
		e := add(6, 2+i, "f")
		change(&e)
		isAll(t, "changed", []api.Event{e}, "f")
		isDots(t, "changed", []api.Event{e}, "f", e.Dot)
		isAll(t, "changed, beside the plain one", []api.Event{e, plain}, "f")
		isDots(t, "changed, beside the plain one", []api.Event{e, plain}, "f", plain.Dot, e.Dot)
		l = append(l, e)
	}
	isAll(t, "all of them", l, "f")
	var want []api.Dot
	for i := range l {
		want = append(want, dot(6, 1+i))
	}
	isDots(t, "all of them", l, "f", want...)
	for _, s := range []string{"j", "g", "k", ""} {
		isDots(t, "a key or a value", l, s)
	}
}

// P13.1: of all kinds that there are, and of those there aren't, SAdd alone tells a member: SRem takes none away
// here, and a Field that only others have is no member.
func TestOtherKinds(t *testing.T) {
	var others []api.Event
	for _, kind := range append([]int{1, 2, 4, 5, 6, 7, 8, 9, 10, 11}, noKinds()...) {
		e := made(kind, 1, 9, "f")
		e.Deps = api.VV{9, 9, 9, 9}
		isAll(t, "one of another kind", []api.Event{e})
		isDots(t, "one of another kind", []api.Event{e}, "f")
		orders([]api.Event{e, add(2, 1, "f"), add(0, 1, "e")}, func(l []api.Event) {
			isAll(t, "beside one of another kind", l, "e", "f")
			isDots(t, "beside one of another kind", l, "f", dot(2, 1))
			isDots(t, "beside one of another kind", l, "e", dot(0, 1))
		})
		others = append(others, e, made(kind, 2, 9, "e"), made(kind, 2, 8, ""))
	}
	isAll(t, "others", others)
	for _, s := range []string{"f", "e", "", "d"} {
		isDots(t, "others", others, s)
	}
	for at := range len(others) + 1 {
		l := slices.Insert(slices.Clone(others), at, add(3, 1, "f"), add(1, 1, "d"))
		l = append(l, add(2, 1, "f"))
		isAll(t, "among others", l, "d", "f")
		isDots(t, "among others", l, "f", dot(2, 1), dot(3, 1))
		isDots(t, "among others", l, "d", dot(1, 1))
		isDots(t, "only others", l, "e")
		isDots(t, "only others", l, "")
	}
}

// P13.1: it is found at each place of a list, the first and the last one among them.
func TestAtEachPlace(t *testing.T) {
	const n = 9
	for at := range n {
		l := make([]api.Event, n)
		for i := range l {
			l[i] = add(i, 1, "m")
		}
		l[at] = add(at, 1, "f")
		isAll(t, "at a place", l, "f", "m")
		isDots(t, "at a place", l, "f", dot(at, 1))
		l[at].Op.Field = "z"
		isAll(t, "at a place", l, "m", "z")
		isDots(t, "at a place", l, "f")
	}
}

// P13.1, R1: a Field that is too long is told whole, as others are, and isn't held alike its beginning.
func TestLongFields(t *testing.T) {
	for _, n := range []int{63, 64, 65, 66, 255, 256, 257, 65536, 100000} {
		s := strings.Repeat("l", n)
		l := []api.Event{add(1, 2, s+"b"), add(0, 1, s), add(1, 1, s+"a"), add(2, 1, s)}
		isAll(t, "long", l, s, s+"a", s+"b")
		isDots(t, "long", l, s, dot(0, 1), dot(2, 1))
		isDots(t, "long", l, s+"a", dot(1, 1))
		isDots(t, "long", l, s+"b", dot(1, 2))
		isDots(t, "one byte less", l, s[1:])
		isDots(t, "one byte more", l, s+"l")
	}
}

// P13.1, R1: events of dots that can't be tell members as others do.
func TestDotsThatCantBe(t *testing.T) {
	for _, d := range []api.Dot{{}, dot(-1, 1), dot(16, 1), dot(0, -1), dot(0, 1<<20+1), dot(math.MinInt, math.MinInt), dot(math.MaxInt, math.MaxInt)} {
		l := []api.Event{add(d.R, d.N, "f"), add(3, 3, "e")}
		isAll(t, "no dot", l, "e", "f")
		isDots(t, "no dot", l, "f", d)
		isDots(t, "no dot", l, "e", dot(3, 3))
	}
}

// P13.1, R1: the zero event is none of SAdd, so the empty text is no member by it.
func TestZeroEvent(t *testing.T) {
	isAll(t, "alone", []api.Event{{}})
	isDots(t, "alone", []api.Event{{}}, "")
	isAll(t, "among others", []api.Event{{}, add(0, 1, "b"), {}, add(1, 1, "a")}, "a", "b")
	zero := api.Event{Op: api.Op{Kind: api.SAdd}}
	isAll(t, "all else zero", []api.Event{zero}, "")
	isDots(t, "all else zero", []api.Event{zero}, "", api.Dot{})
}

// P13.1, R1: all of it by the document's words, of lists of events many of which can't be.
func TestManyLists(t *testing.T) {
	for seed := range 5000 {
		s := dice(seed)
		asTold(t, "some", s.junks(12))
		if t.Failed() {
			t.Fatalf("at seed %d", seed)
		}
	}
}

// P13.1: All tells those of which Has is true, and Dots of each has at least one.
func TestAllIsWhatThereIs(t *testing.T) {
	for seed := range 1000 {
		s := dice(seed)
		l := s.junks(20)
		all := All(l)
		for _, e := range l {
			f := e.Op.Field
			there := slices.Contains(all, f)
			isHas(t, "in All", l, f, there)
			if (len(Dots(l, f)) > 0) != there {
				t.Fatalf("at seed %d: Dots of %q: %v, All: %q", seed, f, Dots(l, f), all)
			}
		}
	}
}

// sameTold holds that two lists tell the same.
func sameTold(t *testing.T, what string, l, m []api.Event) {
	t.Helper()
	isAll(t, what, m, All(l)...)
	for _, x := range [][]api.Event{l, m} {
		for _, e := range x {
			isDots(t, what, m, e.Op.Field, Dots(l, e.Op.Field)...)
		}
	}
}

// P13.2: each order of few events tells the same.
func TestEachOrder(t *testing.T) {
	for seed := range 200 {
		s := dice(seed)
		l := s.junks(9)
		l = l[:min(len(l), 6)]
		orders(l, func(m []api.Event) { sameTold(t, "another order", l, m) })
		if t.Failed() {
			t.Fatalf("at seed %d", seed)
		}
	}
}

// P13.2: some orders of many events tell the same, and so it is if some of them, or all, stand there twice and oftener.
func TestSomeOrders(t *testing.T) {
	for seed := range 200 {
		s := dice(seed)
		l := append(s.junks(40), add(0, 1, "a"))
		sameTold(t, "another order", l, s.mixed(l))
		sameTold(t, "all twice", l, slices.Concat(l, l))
		sameTold(t, "all three times, in another order", l, s.mixed(slices.Concat(l, l, l)))
		some := slices.Clone(l)
		for range 9 {
			e := l[s.roll(len(l))]
			some = slices.Insert(some, s.roll(len(some)+1), e)
		}
		sameTold(t, "some twice", l, some)
		if t.Failed() {
			t.Fatalf("at seed %d", seed)
		}
	}
}

// P13.2: an event that stands there twice is told once, beside itself and with others between.
func TestTwice(t *testing.T) {
	a, b := add(1, 1, "a"), add(2, 1, "b")
	for _, l := range [][]api.Event{{a, a, b}, {a, b, a}, {b, a, a}, {a, b, a, b, b}, {b, b, b, a}} {
		isAll(t, "twice", l, "a", "b")
		isDots(t, "twice", l, "a", dot(1, 1))
		isDots(t, "twice", l, "b", dot(2, 1))
	}
	isAll(t, "alone", []api.Event{a, a}, "a")
	isDots(t, "alone", []api.Event{a, a}, "a", dot(1, 1))
}

// behind holds that of two lists, one behind the other, the members are those of either, as are each one's dots.
func behind(t *testing.T, l, m []api.Event) {
	t.Helper()
	both := slices.Concat(l, m)
	var all []string
	for _, s := range append(All(l), All(m)...) {
		all = laid(all, s, lower)
	}
	isAll(t, "one behind the other", both, all...)
	for _, e := range both {
		s := e.Op.Field
		isHas(t, "one behind the other", both, s, Has(l, s) || Has(m, s))
		var dots []api.Dot
		for _, d := range append(Dots(l, s), Dots(m, s)...) {
			dots = laid(dots, d, ahead)
		}
		isDots(t, "one behind the other", both, s, dots...)
	}
}

// P13.2: two lists, one behind the other: either of them empty or not, with members of one, or of both.
func TestOneBehindTheOther(t *testing.T) {
	a, b, c := add(0, 1, "a"), add(1, 1, "b"), add(2, 1, "a")
	rem := made(api.SRem, 3, 1, "a")
	rem.Deps = api.VV{1, 1, 1}
	some := [][]api.Event{
		nil, {}, {a}, {b}, {c}, {rem}, {{}}, {a, b}, {b, a}, {a, a}, {c, a}, {rem, a}, {a, b, c, rem}, {add(-1, 1, "")}, {add(16, 0, "\xff"), b},
	}
	for _, l := range some {
		for _, m := range some {
			behind(t, l, m)
		}
	}
	isAll(t, "what is taken away behind it", slices.Concat([]api.Event{a}, []api.Event{rem}), "a")
	isAll(t, "as texts", slices.Concat([]api.Event{b}, []api.Event{a, c}), "a", "b")
	for seed := range 2000 {
		s := dice(seed)
		l, m := s.junks(6), s.junks(6)
		behind(t, l, m)
		behind(t, m, l)
		if t.Failed() {
			t.Fatalf("at seed %d", seed)
		}
	}
}

// R6: no answer hangs on a map's order: of many members all calls tell the same, in the same order.
func TestNoMapsOrder(t *testing.T) {
	for _, n := range []int{2, 3, 8, 9, 40, 1000} {
		var l []api.Event
		var want []string
		for i := range n {
			want = append(want, textOf(i))
			l = append(l, add(i%16, 1+i, textOf(i)), add(15-i%16, 1+i, "f"))
		}
		want = append(want, "f")
		dots := Dots(l, "f")
		for range 50 {
			isAll(t, "again", l, want...)
			isDots(t, "again", l, "f", dots...)
		}
	}
}

// textOf is a text for each number below 16384, that rises with it, and is below "f".
func textOf(n int) string { return string([]byte{byte(n >> 8), byte(n)}) }

// R3: what goes in stays as it is, and what lies behind a list's length is neither read nor written.
func TestWhatGoesInStays(t *testing.T) {
	for seed := range 300 {
		s := dice(seed)
		room := append(s.junks(9), add(9, 9, "behind"), add(9, 8, "a"))
		l := room[:s.roll(len(room)-1)]
		was := slices.Clone(room)
		asTold(t, "with events behind", l)
		isDots(t, "with events behind", l, "behind")
		if !slices.Equal(room, was) {
			t.Fatalf("%v became %v", was, room)
		}
	}
}

// R3, R6: what comes out is a list of its own: it stays when what went in is changed, or what another call told; and
// changing it changes nothing that is told later on.
func TestListsOfTheirOwn(t *testing.T) {
	l := []api.Event{add(1, 2, "b"), add(0, 1, "a"), add(1, 1, "b"), add(1, 2, "b")}
	was := slices.Clone(l)
	all, again := All(l), All(l)
	dots, more := Dots(l, "b"), Dots(l, "b")
	all[0], dots[0] = "z", dot(7, 7)
	_ = append(all[:1], "x", "y")
	_ = append(dots[:1], dot(8, 8), dot(9, 9))
	if !slices.Equal(again, []string{"a", "b"}) || !slices.Equal(more, []api.Dot{dot(1, 1), dot(1, 2)}) {
		t.Errorf("another call's answers became %q and %v", again, more)
	}
	if !slices.Equal(l, was) {
		t.Errorf("what went in became %v", l)
	}
	isAll(t, "told again", l, "a", "b")
	isDots(t, "told again", l, "b", dot(1, 1), dot(1, 2))
	clear(l)
	if !slices.Equal(again, []string{"a", "b"}) || !slices.Equal(more, []api.Dot{dot(1, 1), dot(1, 2)}) {
		t.Errorf("%q and %v when what went in was changed", again, more)
	}
	isAll(t, "changed", l)
	isDots(t, "changed", l, "b")
}

// R1: a long list is told, too.
func TestLongList(t *testing.T) {
	const n = 200000
	l := make([]api.Event, n)
	var want []string
	var dots []api.Dot
	for i := range n / 100 {
		want = append(want, textOf(i))
	}
	for i := range l {
		l[i] = add(15-i*16/n, 1+i, textOf((i*7919)%(n/100)))
		if i%2 == 1 {
			l[i].Op.Kind = api.HSet
		}
	}
	for _, e := range l {
		if e.Op.Kind == api.SAdd && e.Op.Field == want[2] {
			dots = append(dots, e.Dot)
		}
	}
	slices.SortFunc(dots, func(a, b api.Dot) int {
		if ahead(a, b) {
			return -1
		}
		return 1
	})
	if got, even := All(l), evens(want); !slices.Equal(got, even) {
		t.Errorf("All: %d members, not %d", len(got), len(even))
	}
	isDots(t, "long", l, want[2], dots...)
	isDots(t, "long", l, want[1])
}

// evens is each second text, from the first one on.
func evens(l []string) []string {
	var m []string
	for i := 0; i < len(l); i += 2 {
		m = append(m, l[i])
	}
	return m
}
