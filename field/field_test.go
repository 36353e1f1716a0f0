package field

import (
	"math"
	"slices"
	"strings"
	"testing"

	"polyphony/api"
)

// dice is numbers that look like no pattern, the same ones each time.
type dice uint32

func (s *dice) roll(n int) int {
	*s = *s*1664525 + 1013904223
	return int(*s>>8) % n
}

// mixed is a list in another order.
func (s *dice) mixed(l []api.Event) []api.Event {
	l = slices.Clone(l)
	for i := range l {
		j := i + s.roll(len(l)-i)
		l[i], l[j] = l[j], l[i]
	}
	return l
}

// noKinds is numbers that are no kind, some of them alike HSet in their lowest bits.
func noKinds() []int {
	return []int{0, 12, 13, -1, -5, -11, 1<<8 + 5, 1<<16 + 5, 1<<32 + 5, math.MinInt, math.MinInt + 5, math.MaxInt}
}

// texts is texts that rise byte by byte: the empty one first, beginnings ahead of what goes on, and bytes of 128 and
// more behind those below.
func texts() []string {
	return []string{
		"", "\x00", "\x00\x00", "\x00\x01", "\x01", "\n", " ", "0", "1", "10", "2", "9", "A", "B", "Z", "_",
		"a", "a\x00", "a\x00b", "a ", "aA", "aa", "aaa", "aab", "ab", "aba", "abb", "a\x7f", "a\x80", "a\xff",
		"b", "ba", "f", "z", "\x7f", "\x80", "\x80\x00", "\x80\x80", "\x81", "\xc3", "\xc3\xa4", "\xc3\xa4a", "\xc3\xa5",
		"\xe6\x97\xa5", "\xf0\x9f\x98\x80", "\xfe", "\xff", "\xff\x00", "\xff\xfe", "\xff\xff",
	}
}

// made is an event of a kind.
func made(kind, r, n, time int, field, value string) api.Event {
	return api.Event{Dot: dot(r, n), Time: time, Op: api.Op{Kind: kind, Key: "k", Field: field, Value: value}}
}

// set is an HSet event.
func set(r, n, time int, field, value string) api.Event {
	return made(api.HSet, r, n, time, field, value)
}

// dot is the dot of a replica and a number.
func dot(r, n int) api.Dot { return api.Dot{R: r, N: n} }

// pair is a field and its value.
func pair(field, value string) Pair { return Pair{Field: field, Value: value} }

// junk is an event of few times, replicas, numbers and Fields, so that of many none is later. It may be one that
// can't be.
func (s *dice) junk() api.Event {
	field, value := []string{"", "a", "aa", "b", "\xff"}[s.roll(5)], []string{"", "a", "v", "w", "x"}[s.roll(5)]
	e := set(s.roll(3), 1+s.roll(3), s.roll(3), field, value)
	e.Deps, e.Op.Key = api.VV{s.roll(4), s.roll(4)}, []string{"k", "j", ""}[s.roll(3)]
	if s.roll(5) == 0 {
		e.Op.Field = texts()[s.roll(len(texts()))]
	}
	if s.roll(4) == 0 {
		e.Op.Kind = 1 + s.roll(11)
	}
	switch s.roll(10) {
	case 0:
		e.Op.Kind = noKinds()[s.roll(len(noKinds()))]
	case 1:
		e.Dot.R = []int{-1, -2, 15, 16, 17, 1 << 32, math.MinInt, math.MaxInt}[s.roll(8)]
	case 2:
		e.Dot.N = []int{0, -1, -2, 1 << 20, 1<<20 + 1, 1 << 32, math.MinInt, math.MaxInt}[s.roll(8)]
	case 3:
		e.Deps, e.Time = api.VV{math.MinInt, math.MaxInt, -1}, []int{math.MinInt, -1, math.MaxInt}[s.roll(3)]
	case 4:
		e.Op.Num, e.Op.Ref = s.roll(9)-4, dot(s.roll(4), s.roll(4))
	case 5:
		e.Op.Field += strings.Repeat("l", 64+s.roll(3))
	case 6:
		e.Op.Value += strings.Repeat("l", 64+s.roll(3))
	}
	return e
}

// junks is a list of such events, some of which stand there twice.
func (s *dice) junks(most int) []api.Event {
	var l []api.Event
	for range s.roll(most + 1) {
		l = append(l, s.junk())
		if s.roll(5) == 0 {
			l = append(l, l[s.roll(len(l))])
		}
	}
	return l
}

// lower tells whether a text is ahead of another one byte by byte, as the document's words have it.
func lower(a, b string) bool {
	for i := range min(len(a), len(b)) {
		if a[i] != b[i] {
			return a[i] < b[i]
		}
	}
	return len(a) < len(b)
}

// later is whether b is later than a by layer 5's words.
func later(b, a api.Event) bool {
	return b.Time > a.Time || b.Time == a.Time && (b.Dot.R > a.Dot.R || b.Dot.R == a.Dot.R && b.Dot.N > a.Dot.N)
}

// of is a list's HSet events that have a Field.
func of(l []api.Event, s string) []api.Event {
	return slices.DeleteFunc(slices.Clone(l), func(e api.Event) bool { return e.Op.Kind != 5 || e.Op.Field != s })
}

// plainGet is Get by the document's words: the first of these events that no other one is later than, each held
// against each other one.
func plainGet(l []api.Event, s string) (string, bool) {
	l = of(l, s)
	for _, a := range l {
		if !slices.ContainsFunc(l, func(b api.Event) bool { return later(b, a) }) {
			return a.Op.Value, true
		}
	}
	return "", false
}

// plainAll is All by the document's words: each Field at its place, if it isn't there yet.
func plainAll(l []api.Event) []Pair {
	var all []Pair
	for _, e := range l {
		if e.Op.Kind != 5 {
			continue
		}
		at := 0
		for at < len(all) && lower(all[at].Field, e.Op.Field) {
			at++
		}
		if at == len(all) || all[at].Field != e.Op.Field {
			value, _ := plainGet(l, e.Op.Field)
			all = slices.Insert(all, at, pair(e.Op.Field, value))
		}
	}
	return all
}

// isAll holds All against what it shall tell, and Get with it: of each that is told, and of some that aren't.
func isAll(t *testing.T, what string, l []api.Event, want ...Pair) {
	t.Helper()
	if got := All(l); !slices.Equal(got, want) {
		t.Errorf("%s: All of %v: %q, not %q", what, few(l), few(got), few(want))
	}
	for _, p := range want {
		isGet(t, what, l, p.Field, p.Value)
	}
	for _, s := range []string{"", "a", "k", "none", "\xff"} {
		if !slices.ContainsFunc(want, func(p Pair) bool { return p.Field == s }) {
			noGet(t, what, l, s)
		}
	}
}

// isGet holds Get against what it shall tell.
func isGet(t *testing.T, what string, l []api.Event, s, want string) {
	t.Helper()
	if got, ok := Get(l, s); got != want || !ok {
		t.Errorf("%s: Get of %q of %v: %q, %t, not %q", what, s, few(l), got, ok, want)
	}
}

// noGet holds that there is no such field.
func noGet(t *testing.T, what string, l []api.Event, s string) {
	t.Helper()
	if got, ok := Get(l, s); got != "" || ok {
		t.Errorf("%s: Get of %q of %v: %q, %t", what, s, few(l), got, ok)
	}
}

// few is a list's first elements: a long one isn't told whole with what is wrong.
func few[T any](l []T) []T { return l[:min(len(l), 9)] }

// fields is the Fields of a list's events, of whatever kinds they are, each once.
func fields(l []api.Event) []string {
	var all []string
	for _, e := range l {
		all = append(all, e.Op.Field)
	}
	slices.Sort(all)
	return slices.Compact(all)
}

// asTold holds all that is told of a list against the document's words: Get of each Field that there is, be it of
// HSet events or of others, and of each text of the tests.
func asTold(t *testing.T, what string, l []api.Event) {
	t.Helper()
	isAll(t, what, l, plainAll(l)...)
	for _, s := range append(texts(), fields(l)...) {
		if want, ok := plainGet(l, s); ok {
			isGet(t, what, l, s, want)
		} else {
			noGet(t, what, l, s)
		}
	}
}

// orders calls a function with each order of events.
func orders(l []api.Event, do func(l []api.Event)) {
	l = slices.Clone(l)
	var from func(n int)
	from = func(n int) {
		if n == len(l) {
			do(slices.Clone(l))
			return
		}
		for i := n; i < len(l); i++ {
			l[n], l[i] = l[i], l[n]
			from(n + 1)
			l[n], l[i] = l[i], l[n]
		}
	}
	from(0)
}

// P14.1: the document's example.
func TestExample(t *testing.T) {
	orders([]api.Event{set(1, 1, 5, "f", "a"), set(1, 2, 6, "g", "b"), set(1, 3, 7, "f", "c")}, func(l []api.Event) {
		isAll(t, "the example", l, pair("f", "c"), pair("g", "b"))
		noGet(t, "the example", l, "h")
	})
}

// P14.1, R1, R2, R4: of no events there are no fields, be the list nil or empty; not even the empty text is one.
func TestNoEvents(t *testing.T) {
	for _, l := range [][]api.Event{nil, {}, make([]api.Event, 0, 9), []api.Event{set(1, 1, 5, "a", "v")}[:0]} {
		isAll(t, "none", l)
		for _, s := range texts() {
			noGet(t, "none", l, s)
		}
	}
}

// P14.1: one event, with each text as its Field, and as its Value: this field is there, and no other.
func TestOneEvent(t *testing.T) {
	for i, s := range texts() {
		for _, v := range []string{"v", "", s, texts()[len(texts())-1-i]} {
			l := []api.Event{set(i%16, 1+i, i, s, v)}
			isAll(t, "one", l, pair(s, v))
			for _, other := range texts() {
				if other != s {
					noGet(t, "one", l, other)
				}
			}
		}
	}
}

// P14.1: several events, of one Field and of several.
func TestSeveralEvents(t *testing.T) {
	one := []api.Event{set(1, 2, 6, "f", "b"), set(0, 7, 8, "f", "c"), set(1, 1, 5, "f", "a")}
	isAll(t, "of one Field", one, pair("f", "c"))
	several := []api.Event{
		set(3, 1, 4, "c", "1"), set(2, 1, 9, "a", "2"), set(1, 1, 3, "b", "3"), set(0, 1, 5, "c", "4"), set(0, 2, 7, "a", "5"),
	}
	isAll(t, "of several", several, pair("a", "2"), pair("b", "3"), pair("c", "4"))
	var each []api.Event
	var want []Pair
	for i, s := range texts() {
		each = append(each, set(1, 1+i, 5, s, "early"), set(2, 1+i, 6, s, "late "+s), set(3, 1+i, 4, s, "earliest"))
		want = append(want, pair(s, "late "+s))
	}
	isAll(t, "of each text", each, want...)
}

// P14.1: the greater time wins, whatever the dots are; at one time the greater replica, whatever the numbers are;
// of one replica the greater number.
func TestWhichIsLatest(t *testing.T) {
	for _, c := range []struct {
		what         string
		early, later api.Event
	}{
		{"the time", set(1, 1, 5, "f", "a"), set(1, 2, 6, "f", "b")},
		{"the time, ahead of the replica", set(15, 1, 5, "f", "a"), set(0, 1, 6, "f", "b")},
		{"the time, ahead of the number", set(1, 1<<20, 5, "f", "a"), set(1, 1, 6, "f", "b")},
		{"the times' edges", set(9, 9, 0, "f", "a"), set(1, 1, 1<<60-1, "f", "b")},
		{"times as numbers", set(9, 9, 9, "f", "a"), set(1, 1, 10, "f", "b")},
		{"the replica", set(0, 1, 5, "f", "a"), set(1, 1, 5, "f", "b")},
		{"the replica, ahead of the number", set(1, 9, 5, "f", "a"), set(2, 1, 5, "f", "b")},
		{"replicas as numbers", set(9, 1, 5, "f", "a"), set(10, 1, 5, "f", "b")},
		{"the number", set(1, 1, 5, "f", "a"), set(1, 2, 5, "f", "b")},
		{"the numbers' edges", set(1, 1, 5, "f", "a"), set(1, 1<<20, 5, "f", "b")},
		{"numbers as numbers", set(1, 9, 5, "f", "a"), set(1, 10, 5, "f", "b")},
		{"not the value", set(1, 1, 5, "f", "z"), set(1, 2, 6, "f", "a")},
		{"not the value's length", set(1, 1, 5, "f", "long"), set(1, 2, 6, "f", "")},
		{"below 0, the time", set(-1, -1, -5, "f", "a"), set(-9, -9, -4, "f", "b")},
		{"below 0, the replica", set(-2, -1, -5, "f", "a"), set(-1, -9, -5, "f", "b")},
		{"below 0, the number", set(-2, -2, -5, "f", "a"), set(-2, -1, -5, "f", "b")},
		{"times far apart", set(1, 1, math.MinInt, "f", "a"), set(1, 1, math.MaxInt, "f", "b")},
		{"replicas far apart", set(math.MinInt, 1, 5, "f", "a"), set(math.MaxInt, 1, 5, "f", "b")},
		{"numbers far apart", set(1, math.MinInt, 5, "f", "a"), set(1, math.MaxInt, 5, "f", "b")},
	} {
		orders([]api.Event{c.early, c.later}, func(l []api.Event) { isAll(t, c.what, l, pair("f", c.later.Op.Value)) })
		orders([]api.Event{c.early, set(15, 1<<20, math.MaxInt, "g", "other"), c.later, c.early}, func(l []api.Event) {
			isAll(t, c.what+", with another field", l, pair("f", c.later.Op.Value), pair("g", "other"))
		})
	}
}

// P14.1: the latest one of a Field is found at each place of a list, by its time, its replica and its number.
func TestLatestAtEachPlace(t *testing.T) {
	const n = 9
	for at := range n {
		byTime, byReplica, byNumber := make([]api.Event, n), make([]api.Event, n), make([]api.Event, n)
		for i := range n {
			byTime[i] = set(i%3, 1+i, i%4, "f", "v")
			byReplica[i], byNumber[i] = set(i%4, 1+i, 5, "f", "v"), set(5, 1+i%4, 5, "f", "v")
		}
		byTime[at], byReplica[at], byNumber[at] = set(0, 1, 4, "f", "w"), set(4, 1, 5, "f", "w"), set(5, 5, 5, "f", "w")
		for _, l := range [][]api.Event{byTime, byReplica, byNumber} {
			isAll(t, "at a place", l, pair("f", "w"))
			l[at].Op.Field = "g"
			isAll(t, "another field at a place", l, pair("f", "v"), pair("g", "w"))
			l[at].Op.Kind = api.HDel
			isAll(t, "another kind at a place", l, pair("f", "v"))
		}
	}
}

// P14.1: the order is byte by byte: each two texts of those that rise, and all of them at once.
func TestRising(t *testing.T) {
	rising := texts()
	var all []api.Event
	var want []Pair
	for i, a := range rising {
		all, want = append(all, set(0, 1+i, 5, a, "v"+a)), append(want, pair(a, "v"+a))
		for _, b := range rising[i+1:] {
			isAll(t, "two", []api.Event{set(0, 1, 5, a, "x"), set(0, 2, 6, b, "w")}, pair(a, "x"), pair(b, "w"))
			isAll(t, "two, the greater one first", []api.Event{set(0, 1, 5, b, "w"), set(0, 2, 6, a, "x")}, pair(a, "x"), pair(b, "w"))
		}
	}
	isAll(t, "all", all, want...)
	slices.Reverse(all)
	isAll(t, "all, the greatest first", all, want...)
}

// P14.1: each byte is told apart, and rises as a number from 0 to 255, alone and behind others.
func TestEachByte(t *testing.T) {
	for _, ahead := range []string{"", "a", "\xff", "\x00\x00", strings.Repeat("m", 63)} {
		var l []api.Event
		var want []Pair
		for b := range 256 {
			s, v := ahead+string([]byte{byte(b)}), string([]byte{byte(255 - b)})
			want = append(want, pair(s, v))
			l = append(l, set(1, 256-b, 5, s, v))
		}
		for _, m := range [][]api.Event{l, slices.Concat(l[128:], l[:128]), slices.Concat(l[200:], l)} {
			isAll(t, "each byte", m, want...)
		}
	}
}

// P14.1: a field is told by its Field, not by its Value: they rise apart, and one value may be that of several.
func TestFieldsAheadOfValues(t *testing.T) {
	orders([]api.Event{set(1, 1, 5, "a", "z"), set(1, 2, 6, "b", "a"), set(1, 3, 7, "c", "a"), set(1, 4, 8, "d", "d")}, func(l []api.Event) {
		isAll(t, "values that fall", l, pair("a", "z"), pair("b", "a"), pair("c", "a"), pair("d", "d"))
		noGet(t, "a value", l, "z")
	})
}

// P14.1: the empty text is a field, if an HSet event has it as its Field, and only then.
func TestEmptyField(t *testing.T) {
	empty, a := set(2, 1, 5, "", "v"), set(1, 1, 6, "a", "w")
	isAll(t, "alone", []api.Event{empty}, pair("", "v"))
	orders([]api.Event{empty, a, set(2, 2, 7, "", "x")}, func(l []api.Event) {
		isAll(t, "beside another one", l, pair("", "x"), pair("a", "w"))
	})
	isAll(t, "not there", []api.Event{a}, pair("a", "w"))
	isAll(t, "of a Set", []api.Event{a, made(api.Set, 2, 1, 9, "", "v")}, pair("a", "w"))
}

// P14.1: the empty text is a value: it is told, and with true, if the latest one has it, and only then.
func TestEmptyValue(t *testing.T) {
	empty, other := set(1, 1, 5, "f", ""), set(1, 2, 6, "f", "v")
	isAll(t, "alone", []api.Event{empty}, pair("f", ""))
	orders([]api.Event{empty, other}, func(l []api.Event) { isAll(t, "the earlier one", l, pair("f", "v")) })
	empty.Time = 7
	orders([]api.Event{empty, other, set(0, 1, 8, "g", "")}, func(l []api.Event) {
		isAll(t, "the later one", l, pair("f", ""), pair("g", ""))
	})
	isAll(t, "of an empty Field", []api.Event{set(1, 1, 5, "", "")}, pair("", ""))
}

// P14.1: events of one Field with the same Value tell it once, be it an earlier one's alone or the latest one's, too.
func TestSameValue(t *testing.T) {
	a, b, c := set(1, 1, 5, "f", "v"), set(2, 1, 6, "f", "v"), set(0, 1, 7, "f", "w")
	orders([]api.Event{a, b}, func(l []api.Event) { isAll(t, "all with one", l, pair("f", "v")) })
	orders([]api.Event{a, b, c}, func(l []api.Event) { isAll(t, "a later one with another", l, pair("f", "w")) })
	orders([]api.Event{a, b, c, set(0, 2, 8, "f", "v")}, func(l []api.Event) { isAll(t, "back again", l, pair("f", "v")) })
	b.Op.Field = "g"
	orders([]api.Event{a, b}, func(l []api.Event) { isAll(t, "of two fields", l, pair("f", "v"), pair("g", "v")) })
}

// P14.1: Fields of which one is another one's beginning, that are unlike in one byte alone, or in a letter's size.
func TestAlikeFields(t *testing.T) {
	l := []api.Event{
		set(0, 1, 1, "ab", "1"), set(0, 2, 2, "abc", "2"), set(0, 3, 3, "abd", "3"),
		set(0, 4, 4, "Ab", "4"), set(0, 5, 5, "ab\x00", "5"), set(0, 6, 6, "bb", "6"),
	}
	isAll(t, "alike", l, pair("Ab", "4"), pair("ab", "1"), pair("ab\x00", "5"), pair("abc", "2"), pair("abd", "3"), pair("bb", "6"))
	for _, s := range []string{"a", "b", "AB", "aB", "ab ", " ab", "abcd", "abe", "c", "\x00", "ab\x00\x00", "abcabd"} {
		noGet(t, "not there", l, s)
	}
	long := strings.Repeat("x", 63)
	for i := range 64 {
		one, other := long[:i]+"a"+long[i:], long[:i]+"b"+long[i:]
		m := []api.Event{set(1, 2, 6, other, "2"), set(1, 1, 5, one, "1")}
		isAll(t, "one byte", m, pair(one, "1"), pair(other, "2"))
		noGet(t, "one byte", m, long[:i]+"c"+long[i:])
	}
}

// P14.1: of a Field's events of which none is later the first one in the list is told, unlike as they are; what other
// fields and kinds there are ahead of it plays no part.
func TestNoneIsLater(t *testing.T) {
	v, w, empty := set(1, 1, 5, "f", "v"), set(1, 1, 5, "f", "w"), set(1, 1, 5, "f", "")
	seen, key := set(1, 1, 5, "f", "seen"), set(1, 1, 5, "f", "key")
	seen.Deps, key.Op.Key = api.VV{7: 7, 1: 9}, "j"
	early, number, other := set(9, 9, 4, "f", "early"), set(0, 9, 5, "f", "number"), set(1, 1, 5, "g", "other")
	gone := made(api.HDel, 1, 1, 5, "f", "gone")
	for _, some := range [][]api.Event{{v, w}, {v, w, empty, seen, key, gone}, {early, w, number, v, other, gone}} {
		orders(some, func(l []api.Event) {
			first := slices.IndexFunc(l, func(e api.Event) bool {
				return e.Dot == dot(1, 1) && e.Op.Kind == api.HSet && e.Op.Field == "f"
			})
			isGet(t, "none is later", l, "f", l[first].Op.Value)
			if got := All(l); len(got) == 0 || got[0] != pair("f", l[first].Op.Value) {
				t.Errorf("none is later: All of %v: %q", l, got)
			}
		})
	}
}

// P14.1: nothing but the Kind, the Field, the time and the dot counts: not the key, nor what was seen, nor what an
// HSet event doesn't use.
func TestNothingElseCounts(t *testing.T) {
	changes := []func(e *api.Event){
		func(e *api.Event) { e.Op.Key = "j" },
		func(e *api.Event) { e.Op.Key = "" },
		func(e *api.Event) { e.Op.Key = strings.Repeat("k", 65) },
		func(e *api.Event) { e.Op.Num = math.MinInt },
		func(e *api.Event) { e.Op.Num = math.MaxInt },
		func(e *api.Event) { e.Op.Ref = dot(6, 1) },
		func(e *api.Event) { e.Deps = api.VV{6: 9, 7: 9} },
		func(e *api.Event) { e.Deps = api.VV{-1, math.MinInt, math.MaxInt} },
	}
	for _, change := range changes {
		early, late := set(6, 1, 5, "f", "a"), set(7, 1, 5, "f", "b")
		change(&early)
		orders([]api.Event{early, late}, func(l []api.Event) { isAll(t, "the earlier one changed", l, pair("f", "b")) })
		early = set(6, 1, 5, "f", "a")
		change(&late)
		orders([]api.Event{early, late}, func(l []api.Event) { isAll(t, "the later one changed", l, pair("f", "b")) })
		isAll(t, "changed, alone", []api.Event{late}, pair("f", "b"))
		change(&early)
		orders([]api.Event{early, late}, func(l []api.Event) { isAll(t, "both changed", l, pair("f", "b")) })
	}
}

// P14.1: events of one Field with unlike Keys tell one field.
func TestUnlikeKeys(t *testing.T) {
	a, b, c := set(1, 1, 5, "f", "a"), set(2, 1, 6, "f", "b"), set(3, 1, 7, "g", "c")
	for _, keys := range [][3]string{{"k", "j", "k"}, {"j", "k", "i"}, {"f", "g", ""}, {"", "f", "f"}} {
		a.Op.Key, b.Op.Key, c.Op.Key = keys[0], keys[1], keys[2]
		orders([]api.Event{a, b, c}, func(l []api.Event) { isAll(t, "unlike Keys", l, pair("f", "b"), pair("g", "c")) })
	}
}

// P14.1: of all kinds that there are, and of those there aren't, HSet alone tells a field, however late the others
// are: HDel takes none away here, and a Field that only others have is none.
func TestOtherKinds(t *testing.T) {
	var others []api.Event
	for _, kind := range append([]int{1, 2, 3, 4, 6, 7, 8, 9, 10, 11}, noKinds()...) {
		e := made(kind, 9, 9, 9, "f", "other")
		e.Deps = api.VV{9, 9, 9, 9}
		isAll(t, "one of another kind", []api.Event{e})
		noGet(t, "one of another kind", []api.Event{e}, "f")
		orders([]api.Event{e, set(2, 1, 5, "f", "v"), set(0, 1, 5, "e", "w")}, func(l []api.Event) {
			isAll(t, "beside one of another kind", l, pair("e", "w"), pair("f", "v"))
		})
		e.Dot, e.Time = dot(2, 1), 5
		orders([]api.Event{e, set(2, 1, 5, "f", "v")}, func(l []api.Event) { isAll(t, "with the same dot", l, pair("f", "v")) })
		others = append(others, made(kind, 9, 9, 9, "f", "x"), made(kind, 2, 9, 0, "e", "x"), made(kind, 2, 8, 9, "", "x"))
	}
	isAll(t, "others", others)
	for _, s := range []string{"f", "e", "", "d"} {
		noGet(t, "others", others, s)
	}
	for at := range len(others) + 1 {
		l := slices.Insert(slices.Clone(others), at, set(3, 1, 5, "f", "v"), set(1, 1, 5, "d", "w"))
		l = append(l, set(2, 1, 5, "f", "u"))
		isAll(t, "among others", l, pair("d", "w"), pair("f", "v"))
		noGet(t, "only others", l, "e")
		noGet(t, "only others", l, "")
	}
}

// P14.1, R1: a Field or a Value that is too long is told whole, as others are; such a Field isn't held alike its
// beginning.
func TestLongTexts(t *testing.T) {
	for _, n := range []int{63, 64, 65, 66, 255, 256, 257, 65536, 100000} {
		s := strings.Repeat("l", n)
		l := []api.Event{set(1, 2, 6, s+"b", s), set(0, 1, 5, s, "x"), set(1, 1, 5, s+"a", s+"v"), set(2, 1, 5, s, s+"w")}
		isAll(t, "long", l, pair(s, s+"w"), pair(s+"a", s+"v"), pair(s+"b", s))
		noGet(t, "one byte less", l, s[1:])
		noGet(t, "one byte more", l, s+"l")
	}
}

// P14.1: values are told byte by byte.
func TestValuesOfAnyBytes(t *testing.T) {
	for _, s := range append(texts(), "a\x00b", "k\n\r", "日本", "\xff\xfe\xfd") {
		l := []api.Event{set(2, 1, 4, "f", "v"), set(1, 1, 5, "f", s), set(0, 1, 5, "f", "w"), set(3, 1, 9, "g", "x")}
		isAll(t, "some bytes", l, pair("f", s), pair("g", "x"))
	}
}

// P14.1, R1: events with times, dots or vectors that can't be, and of replicas that there aren't, tell fields as
// others do; the least of all is told, not the zero event.
func TestEventsThatCantBe(t *testing.T) {
	least := set(math.MinInt, math.MinInt, math.MinInt, "f", "least")
	isAll(t, "the least alone", []api.Event{least}, pair("f", "least"))
	for _, e := range []api.Event{
		set(0, 0, 0, "f", "v"), set(-1, 1, 5, "f", "v"), set(16, 1, 5, "f", "v"), set(0, -1, 5, "f", "v"), set(0, 1<<20+1, 5, "f", "v"),
		set(1, 1, -1, "f", "v"), set(1, 1, 1<<60, "f", "v"), set(math.MaxInt, math.MaxInt, math.MaxInt, "f", "v"),
		set(math.MinInt, math.MinInt, math.MinInt+1, "f", "v"),
	} {
		for _, deps := range []api.VV{{}, {-1}, {15: math.MinInt}, {math.MaxInt, math.MaxInt}} {
			e.Deps = deps
			isAll(t, "alone", []api.Event{e}, pair("f", "v"))
			orders([]api.Event{e, least, set(3, 3, 3, "e", "w")}, func(l []api.Event) {
				isAll(t, "beside others", l, pair("e", "w"), pair("f", "v"))
			})
		}
	}
}

// P14.1, R1: the zero event is none of HSet, so the empty text is no field by it.
func TestZeroEvent(t *testing.T) {
	isAll(t, "alone", []api.Event{{}})
	isAll(t, "among others", []api.Event{{}, set(0, 1, 0, "b", "v"), {}, set(1, 1, 0, "a", "w")}, pair("a", "w"), pair("b", "v"))
	zero := api.Event{Op: api.Op{Kind: api.HSet}}
	isAll(t, "all else zero", []api.Event{zero}, pair("", ""))
	isAll(t, "all else zero, behind the zero event", []api.Event{{}, zero}, pair("", ""))
}

// P14.1, R1: all of it by the document's words, of lists of events many of which can't be.
func TestManyLists(t *testing.T) {
	for seed := range 5000 {
		s := dice(seed)
		asTold(t, "some", s.junks(12))
		if t.Failed() {
			t.Fatalf("at seed %d", seed)
		}
	}
}

// P14.1: All tells of each field what Get tells, and those alone of which Get tells something.
func TestAllIsWhatGetTells(t *testing.T) {
	for seed := range 1000 {
		s := dice(seed)
		l := s.junks(20)
		var want []Pair
		for _, f := range fields(l) {
			if value, ok := Get(l, f); ok {
				want = append(want, pair(f, value))
			}
		}
		if got := All(l); !slices.Equal(got, want) {
			t.Fatalf("at seed %d: All: %q, Get: %q", seed, got, want)
		}
	}
}

// sameTold holds that two lists tell the same.
func sameTold(t *testing.T, what string, l, m []api.Event) {
	t.Helper()
	isAll(t, what, m, All(l)...)
	for _, s := range fields(slices.Concat(l, m)) {
		if want, ok := Get(l, s); ok {
			isGet(t, what, m, s, want)
		} else {
			noGet(t, what, m, s)
		}
	}
}

// unlike is a list without those events whose dots stand ahead of them.
func unlike(l []api.Event) []api.Event {
	var m []api.Event
	for _, e := range l {
		if !slices.ContainsFunc(m, func(b api.Event) bool { return b.Dot == e.Dot }) {
			m = append(m, e)
		}
	}
	return m
}

// P14.2: each order of few events with unlike dots tells the same.
func TestEachOrder(t *testing.T) {
	for seed := range 300 {
		s := dice(seed)
		l := unlike(s.junks(12))
		l = l[:min(len(l), 6)]
		orders(l, func(m []api.Event) { sameTold(t, "another order", l, m) })
		if t.Failed() {
			t.Fatalf("at seed %d", seed)
		}
	}
}

// P14.2: some orders of many events with unlike dots tell the same, and so it is if they stand there twice.
func TestSomeOrders(t *testing.T) {
	for seed := range 100 {
		s := dice(seed)
		var l []api.Event
		for n := range 300 {
			l = append(l, made(4+s.roll(3), n%16, 1+n/16, s.roll(4), texts()[s.roll(len(texts()))], textOf(n)))
		}
		asTold(t, "many", l)
		for range 3 {
			sameTold(t, "another order", l, s.mixed(l))
		}
		sameTold(t, "all twice", l, slices.Concat(l, l))
		sameTold(t, "all three times, in another order", l, s.mixed(slices.Concat(l, l, l)))
		if t.Failed() {
			t.Fatalf("at seed %d", seed)
		}
	}
}

// textOf is a text for each number below 16384, that rises with it, and is below "f".
func textOf(n int) string { return string([]byte{byte(n >> 8), byte(n)}) }

// P14.1, P14.2: an event that stands there twice is told as once, beside itself and with others between.
func TestTwice(t *testing.T) {
	a, b, c := set(1, 1, 5, "f", "a"), set(1, 2, 5, "f", "b"), set(2, 1, 4, "g", "c")
	orders([]api.Event{a, a, b, b, c, c}, func(l []api.Event) { isAll(t, "twice", l, pair("f", "b"), pair("g", "c")) })
	isAll(t, "alone", []api.Event{a, a}, pair("f", "a"))
}

// P14.2: a field's value hangs on its own events alone: it stays as it is without those of other fields and kinds,
// and with others among them.
func TestOwnEventsAlone(t *testing.T) {
	for seed := range 2000 {
		s := dice(seed)
		l := s.junks(15)
		all := All(l)
		for _, p := range all {
			own := of(l, p.Field)
			isAll(t, "its own", own, p)
			more := slices.Clone(own)
			for range 5 {
				e := s.junk()
				if e.Op.Field == p.Field {
					e.Op.Field += "more"
				}
				more = slices.Insert(more, s.roll(len(more)+1), e)
			}
			isGet(t, "with others", more, p.Field, p.Value)
		}
		for _, p := range all {
			rest := slices.DeleteFunc(slices.Clone(l), func(e api.Event) bool { return e.Op.Field == p.Field })
			isAll(t, "the others", rest, slices.DeleteFunc(slices.Clone(all), func(q Pair) bool { return q == p })...)
		}
		if t.Failed() {
			t.Fatalf("at seed %d", seed)
		}
	}
}

// R6: no answer hangs on a map's order: of many fields all calls tell the same, in the same order.
func TestNoMapsOrder(t *testing.T) {
	for _, n := range []int{2, 3, 8, 9, 40, 1000} {
		var l []api.Event
		var want []Pair
		for i := range n {
			want = append(want, pair(textOf(i), textOf(n-i)))
			l = append(l, set(i%16, 1+i, 5, textOf(i), textOf(n-i)), set(1, 1, 5, "f", textOf(i)), set(i%16, 1+i, 4, textOf(i), "early"))
		}
		want = append(want, pair("f", textOf(0)))
		for range 50 {
			if got := All(l); !slices.Equal(got, want) {
				t.Fatalf("again: All: %q, not %q", few(got), few(want))
			}
			isGet(t, "again", l, "f", textOf(0))
		}
	}
}

// R3: what goes in stays as it is, and what lies behind a list's length is neither read nor written.
func TestWhatGoesInStays(t *testing.T) {
	for seed := range 300 {
		s := dice(seed)
		late := []api.Event{set(15, 9, math.MaxInt, "behind", "v"), set(15, 8, math.MaxInt, "a", "v"), set(15, 7, math.MaxInt, "", "v")}
		room := append(s.junks(9), late...)
		l := room[:s.roll(len(room)-2)]
		was := slices.Clone(room)
		asTold(t, "with events behind", l)
		noGet(t, "with events behind", l, "behind")
		if !slices.Equal(room, was) {
			t.Fatalf("%v became %v", was, room)
		}
	}
}

// R3, R6: what comes out is a list of its own: it stays when what went in is changed, or what another call told; and
// changing it changes nothing that is told later on.
func TestListsOfTheirOwn(t *testing.T) {
	l := []api.Event{set(1, 2, 6, "g", "b"), set(0, 1, 5, "f", "a"), set(1, 1, 4, "g", "c"), set(1, 3, 7, "h", "d")}
	was, want := slices.Clone(l), []Pair{pair("f", "a"), pair("g", "b"), pair("h", "d")}
	all, again := All(l), All(l)
	value, _ := Get(l, "g")
	all[0] = pair("z", "z")
	_ = append(all[:1], pair("x", "x"), pair("y", "y"))
	if !slices.Equal(again, want) {
		t.Errorf("another call's answer became %q", again)
	}
	if !slices.Equal(l, was) {
		t.Errorf("what went in became %v", l)
	}
	isAll(t, "told again", l, want...)
	clear(l)
	if !slices.Equal(again, want) || value != "b" {
		t.Errorf("%q and %q when what went in was changed", again, value)
	}
	isAll(t, "changed", l)
	noGet(t, "changed", l, "g")
}

// R1: a long list is told, too, of one field and of many.
func TestLongList(t *testing.T) {
	const n = 200000
	for _, many := range []int{1, 2, 2000, 16000} {
		l := make([]api.Event, n)
		values, times := make([]string, many), make([]int, many)
		for i := range l {
			f := i % many
			l[i] = set(i%16, 1+i, 1+(i*7919)%n, textOf(f), textOf(i%16001))
			if l[i].Time > times[f] {
				times[f], values[f] = l[i].Time, l[i].Op.Value
			}
		}
		var want []Pair
		for f, v := range values {
			want = append(want, pair(textOf(f), v))
		}
		if got := All(l); !slices.Equal(got, want) {
			t.Errorf("All: %d fields, not %d: %q, not %q", len(got), len(want), few(got), few(want))
		}
		isGet(t, "long", l, textOf(many-1), values[many-1])
		noGet(t, "long", l, "f")
	}
}
