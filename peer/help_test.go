package peer

import (
	"math"
	"slices"
	"testing"

	"polyphony/api"
)

// The limits, as the document says them.
const (
	last = 15
	top  = 1 << 20
	room = 65536
)

// dice is numbers that look like no pattern, the same ones each time.
type dice uint32

func (s *dice) roll(n int) int {
	*s = *s*1664525 + 1013904223
	return int(*s>>8) % n
}

// pick is one of several things.
func pick[T any](s *dice, l ...T) T { return l[s.roll(len(l))] }

// put is v with n for replica r.
func put(v api.VV, r, n int) api.VV {
	v[r] = n
	return v
}

// all is a vector with one number for every replica.
func all(n int) api.VV {
	var v api.VV
	for r := range v {
		v[r] = n
	}
	return v
}

// at is an event of a dot, which nothing but its time tells from others of that dot.
func at(r, n, time int) api.Event {
	return api.Event{Dot: api.Dot{R: r, N: n}, Time: time, Op: api.Op{Kind: api.Set, Key: "k", Value: "v"}}
}

// wrongNumbers is numbers that no dot and, but for 0, no vector that can be has.
func wrongNumbers() []int {
	return []int{0, -1, -2, math.MinInt, math.MinInt + 1, top + 1, 2 * top, 1 << 32, math.MaxInt - 1, math.MaxInt}
}

// wrongDots is dots that can't be: by the replica, by the number, and by both.
func wrongDots() []api.Dot {
	var l []api.Dot
	for _, r := range []int{-1, -2, math.MinInt, last + 1, last + 2, 1 << 32, math.MaxInt} {
		for _, n := range append(wrongNumbers(), 1, 2, top) {
			l = append(l, api.Dot{R: r, N: n})
		}
	}
	for _, r := range []int{0, 7, last} {
		for _, n := range wrongNumbers() {
			l = append(l, api.Dot{R: r, N: n})
		}
	}
	return l
}

// has is whether a vector has a dot, by layer 3's words.
func has(v api.VV, d api.Dot) bool {
	return d.R >= 0 && d.R <= last && d.N >= 1 && d.N <= top && d.N <= v[d.R]
}

// plain is a log by the document's words: all that was ever added, and the vectors by which was trimmed behind it.
type plain struct {
	events []api.Event
	gone   [][]api.VV
}

func (p *plain) add(e api.Event) {
	p.events = append(p.events, e)
	p.gone = append(p.gone, nil)
}

func (p *plain) left() []api.Event {
	var l []api.Event
	for i, e := range p.events {
		if !slices.ContainsFunc(p.gone[i], func(v api.VV) bool { return has(v, e.Dot) }) {
			l = append(l, e)
		}
	}
	return l
}

func (p *plain) trim(v api.VV) int {
	ahead := len(p.left())
	for i := range p.gone {
		p.gone[i] = append(p.gone[i], v)
	}
	return ahead - len(p.left())
}

func (p *plain) forOne(v, told api.VV, most int) []api.Event {
	var l []api.Event
	for _, e := range p.left() {
		if has(told, e.Dot) && !has(v, e.Dot) {
			l = append(l, e)
		}
	}
	return l[:min(max(most, 0), len(l))]
}

// filled is a log with these events.
func filled(events ...api.Event) *Log {
	l := New()
	for _, e := range events {
		l.Add(e)
	}
	return l
}

// is holds all that a log has against what it should have.
func is(t *testing.T, what string, l *Log, want ...api.Event) {
	t.Helper()
	if got := l.Events(); !slices.Equal(got, want) {
		t.Fatalf("%s: Events:\n%v\nwant\n%v", what, got, want)
	}
	if n := l.Len(); n != len(want) {
		t.Fatalf("%s: Len %d, want %d", what, n, len(want))
	}
}

// tells holds what a log has for another one against what it should.
func tells(t *testing.T, what string, l *Log, v, told api.VV, most int, want ...api.Event) {
	t.Helper()
	if got := l.For(v, told, most); !slices.Equal(got, want) {
		t.Fatalf("%s: For(%v, %v, %d):\n%v\nwant\n%v", what, v, told, most, got, want)
	}
}

// trims holds how many events go against how many should.
func trims(t *testing.T, what string, l *Log, v api.VV, want int) {
	t.Helper()
	if n := l.Trim(v); n != want {
		t.Fatalf("%s: Trim(%v): %d, want %d", what, v, n, want)
	}
}

// world is events of several replicas in an order in which each may be seen, and, at each place, what some replica had seen then: vectors that have all that their events have seen.
func world(s *dice, replicas, n int) ([]api.Event, []api.VV) {
	seen := make([]api.VV, replicas)
	var l []api.Event
	var whole []api.VV
	for range n {
		r := s.roll(replicas)
		if s.roll(2) == 0 {
			seen[r] = joined(seen[r], seen[s.roll(replicas)])
		}
		e := at(r, seen[r][r]+1, s.roll(9))
		e.Deps = seen[r]
		seen[r][r]++
		l = append(l, e)
		whole = append(whole, seen[r])
	}
	return l, whole
}

// joined is the greater one of each number.
func joined(a, b api.VV) api.VV {
	for r, n := range b {
		a[r] = max(a[r], n)
	}
	return a
}

// maySee is whether an event may be seen next, by layer 18's words.
func maySee(e api.Event, v api.VV) bool {
	for r, n := range e.Deps {
		if n > v[r] {
			return false
		}
	}
	return e.Dot.N == v[e.Dot.R]+1
}

// puts holds whether a box takes a thing against whether it should.
func puts[T any](t *testing.T, what string, b *Box[T], x T, want bool) {
	t.Helper()
	if ok := b.Put(x); ok != want {
		t.Fatalf("%s: Put(%v): %t, want %t", what, x, ok, want)
	}
}

// takes holds what comes out of a box against what should.
func takes[T comparable](t *testing.T, what string, b *Box[T], want T) {
	t.Helper()
	if x, ok := b.Take(); x != want || !ok {
		t.Fatalf("%s: Take: %v, %t, want %v, true", what, x, ok, want)
	}
}

// isEmpty holds that nothing comes out of a box, nor does a thing beside the false.
func isEmpty[T comparable](t *testing.T, what string, b *Box[T]) {
	t.Helper()
	var none T
	if x, ok := b.Take(); x != none || ok {
		t.Fatalf("%s: Take of nothing: %v, %t", what, x, ok)
	}
	hasSo(t, what, b, 0)
}

// hasSo holds how many things a box has against how many it should.
func hasSo[T any](t *testing.T, what string, b *Box[T], want int) {
	t.Helper()
	if n := b.Len(); n != want {
		t.Fatalf("%s: Len %d, want %d", what, n, want)
	}
}
