package score

import (
	"math"
	"slices"
	"strings"
	"testing"

	"polyphony/api"
)

// dice is numbers that look like no pattern, the same ones each time.
type dice uint32

func (s *dice) roll(n int) int {
	*s = *s*1664525 + 1013904223
	return int(*s>>8) % n
}

// mixed is a list in another order.
func (s *dice) mixed(l []api.Event) []api.Event {
	l = slices.Clone(l)
	for i := range l {
		j := i + s.roll(len(l)-i)
		l[i], l[j] = l[j], l[i]
	}
	return l
}

// far is a number near 0, or one of those that lie far from it.
func (s *dice) far() int {
	if s.roll(4) == 0 {
		return numbers()[s.roll(len(numbers()))]
	}
	return s.roll(21) - 10
}

// noKinds is numbers that are no kind, some of them alike ZAdd in their lowest bits.
func noKinds() []int {
	return []int{0, 12, 13, -1, -7, -11, 1<<8 + 7, 1<<16 + 7, 1<<32 + 7, math.MinInt, math.MinInt + 7, math.MaxInt}
}

// numbers is numbers that rise, from the least to the greatest that an int can hold.
func numbers() []int {
	return []int{
		math.MinInt, math.MinInt + 1, -1<<62 - 1, -1<<40 - 1, -1 << 40, -1 << 32, -256, -10, -9, -2, -1,
		0, 1, 2, 9, 10, 99, 100, 255, 256, 1<<31 - 1, 1 << 31, 1 << 32, 1<<32 + 1, 1 << 40, 1<<40 + 1, 1<<53 + 1, 1<<53 + 2,
		1 << 62, math.MaxInt - 1, math.MaxInt,
	}
}

// texts is texts that rise byte by byte: the empty one first, beginnings ahead of what goes on, and bytes of 128 and
// more behind those below.
func texts() []string {
	return []string{
		"", "\x00", "\x00\x00", "\x00\x01", "\x01", "\n", " ", "0", "1", "10", "2", "9", "A", "B", "Z", "_",
		"a", "a\x00", "a\x00b", "a ", "aA", "aa", "aaa", "aab", "ab", "aba", "abb", "a\x7f", "a\x80", "a\xff",
		"b", "ba", "f", "z", "\x7f", "\x80", "\x80\x00", "\x80\x80", "\x81", "\xc3", "\xc3\xa4", "\xc3\xa4a", "\xc3\xa5",
		"\xe6\x97\xa5", "\xf0\x9f\x98\x80", "\xfe", "\xff", "\xff\x00", "\xff\xfe", "\xff\xff",
	}
}

// textOf is a text for each number below 16384, that rises with it, and is below "f".
func textOf(n int) string { return string([]byte{byte(n >> 8), byte(n)}) }

// made is an event of a kind.
func made(kind, r, n, time int, field string, num int) api.Event {
	return api.Event{Dot: dot(r, n), Time: time, Op: api.Op{Kind: kind, Key: "k", Field: field, Num: num}}
}

// add is a ZAdd event.
func add(r, n, time int, field string, num int) api.Event {
	return made(api.ZAdd, r, n, time, field, num)
}

// dot is the dot of a replica and a number.
func dot(r, n int) api.Dot { return api.Dot{R: r, N: n} }

// pair is a member and its score.
func pair(member string, score int) Pair { return Pair{Member: member, Score: score} }

// junk is an event of few times, replicas, numbers, Fields and scores, so that of many none is later, and of many the
// score is alike. It may be one that can't be.
func (s *dice) junk() api.Event {
	e := add(s.roll(3), 1+s.roll(3), s.roll(3), []string{"", "a", "aa", "b", "\xff"}[s.roll(5)], s.roll(5)-2)
	e.Deps, e.Op.Key = api.VV{s.roll(4), s.roll(4)}, []string{"k", "j", ""}[s.roll(3)]
	if s.roll(5) == 0 {
		e.Op.Field = texts()[s.roll(len(texts()))]
	}
	if s.roll(5) == 0 {
		e.Op.Num = numbers()[s.roll(len(numbers()))]
	}
	if s.roll(4) == 0 {
		e.Op.Kind = 1 + s.roll(11)
	}
	switch s.roll(10) {
	case 0:
		e.Op.Kind = noKinds()[s.roll(len(noKinds()))]
	case 1:
		e.Dot.R = []int{-1, -2, 15, 16, 17, 1 << 32, math.MinInt, math.MaxInt}[s.roll(8)]
	case 2:
		e.Dot.N = []int{0, -1, -2, 1 << 20, 1<<20 + 1, 1 << 32, math.MinInt, math.MaxInt}[s.roll(8)]
	case 3:
		e.Deps, e.Time = api.VV{math.MinInt, math.MaxInt, -1}, []int{math.MinInt, -1, math.MaxInt}[s.roll(3)]
	case 4:
		e.Op.Value, e.Op.Ref = strings.Repeat("v", s.roll(70)), dot(s.roll(4), s.roll(4))
	case 5:
		e.Op.Field += strings.Repeat("l", 64+s.roll(3))
	}
	return e
}

// junks is a list of such events, some of which stand there twice.
func (s *dice) junks(most int) []api.Event {
	var l []api.Event
	for range s.roll(most + 1) {
		l = append(l, s.junk())
		if s.roll(5) == 0 {
			l = append(l, l[s.roll(len(l))])
		}
	}
	return l
}

// lower tells whether a text is ahead of another one byte by byte, as the document's words have it.
func lower(a, b string) bool {
	for i := range min(len(a), len(b)) {
		if a[i] != b[i] {
			return a[i] < b[i]
		}
	}
	return len(a) < len(b)
}

// later is whether b is later than a by layer 5's words.
func later(b, a api.Event) bool {
	return b.Time > a.Time || b.Time == a.Time && (b.Dot.R > a.Dot.R || b.Dot.R == a.Dot.R && b.Dot.N > a.Dot.N)
}

// plainGet is Get by the document's words: the first of a Field's ZAdd events that no other one is later than, each
// held against each other one.
func plainGet(l []api.Event, s string) (int, bool) {
	l = slices.DeleteFunc(slices.Clone(l), func(e api.Event) bool { return e.Op.Kind != 7 || e.Op.Field != s })
	for _, a := range l {
		if !slices.ContainsFunc(l, func(b api.Event) bool { return later(b, a) }) {
			return a.Op.Num, true
		}
	}
	return 0, false
}

// plainAll is All by the document's words: each Field with its score at its place, if it isn't there yet.
func plainAll(l []api.Event) []Pair {
	var all []Pair
	for _, s := range fields(l) {
		score, ok := plainGet(l, s)
		if !ok {
			continue
		}
		at := 0
		for at < len(all) && (all[at].Score < score || all[at].Score == score && lower(all[at].Member, s)) {
			at++
		}
		all = slices.Insert(all, at, pair(s, score))
	}
	return all
}

// isAll holds All against what it shall tell, and Get and Rank with it: of each that is told, and of some that aren't.
func isAll(t *testing.T, what string, l []api.Event, want ...Pair) {
	t.Helper()
	if got := All(l); !slices.Equal(got, want) {
		t.Errorf("%s: All of %v: %v, not %v", what, few(l), few(got), few(want))
	}
	for at, p := range want {
		isGet(t, what, l, p.Member, p.Score)
		isRank(t, what, l, p.Member, at)
	}
	for _, s := range []string{"", "a", "k", "none", "\xff"} {
		if !slices.ContainsFunc(want, func(p Pair) bool { return p.Member == s }) {
			isNone(t, what, l, s)
		}
	}
}

// isGet holds Get against what it shall tell.
func isGet(t *testing.T, what string, l []api.Event, s string, want int) {
	t.Helper()
	if got, ok := Get(l, s); got != want || !ok {
		t.Errorf("%s: Get of %q of %v: %d, %t, not %d", what, s, few(l), got, ok, want)
	}
}

// isRank holds Rank against what it shall tell.
func isRank(t *testing.T, what string, l []api.Event, s string, want int) {
	t.Helper()
	if got, ok := Rank(l, s); got != want || !ok {
		t.Errorf("%s: Rank of %q of %v: %d, %t, not %d", what, s, few(l), got, ok, want)
	}
}

// isNone holds that there is no such member: neither has it a score, nor a rank.
func isNone(t *testing.T, what string, l []api.Event, s string) {
	t.Helper()
	if got, ok := Get(l, s); got != 0 || ok {
		t.Errorf("%s: Get of %q of %v: %d, %t", what, s, few(l), got, ok)
	}
	if got, ok := Rank(l, s); got != 0 || ok {
		t.Errorf("%s: Rank of %q of %v: %d, %t", what, s, few(l), got, ok)
	}
}

// few is a list's first elements: a long one isn't told whole with what is wrong.
func few[T any](l []T) []T { return l[:min(len(l), 9)] }

// fields is the Fields of a list's events, of whatever kinds they are, each once.
func fields(l []api.Event) []string {
	var all []string
	for _, e := range l {
		all = append(all, e.Op.Field)
	}
	slices.Sort(all)
	return slices.Compact(all)
}

// asTold holds all that is told of a list against the document's words: of each Field that there is, be it of ZAdd
// events or of others, and of each text of the tests.
func asTold(t *testing.T, what string, l []api.Event) {
	t.Helper()
	want := plainAll(l)
	isAll(t, what, l, want...)
	for _, s := range append(texts(), fields(l)...) {
		if !slices.ContainsFunc(want, func(p Pair) bool { return p.Member == s }) {
			isNone(t, what, l, s)
		}
	}
}

// orders calls a function with each order of events.
func orders(l []api.Event, do func(l []api.Event)) {
	l = slices.Clone(l)
	var from func(n int)
	from = func(n int) {
		if n == len(l) {
			do(slices.Clone(l))
			return
		}
		for i := n; i < len(l); i++ {
			l[n], l[i] = l[i], l[n]
			from(n + 1)
			l[n], l[i] = l[i], l[n]
		}
	}
	from(0)
}
