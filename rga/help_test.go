package rga

import (
	"math"
	"slices"
	"strings"
	"testing"

	"polyphony/api"
)

// last and top are the last replica and the greatest number of a dot, as the document says them.
const (
	last = 15
	top  = 1 << 20
)

// dice is numbers that look like no pattern, the same ones each time.
type dice uint32

func (s *dice) roll(n int) int {
	*s = *s*1664525 + 1013904223
	return int(*s>>8) % n
}

// mixed is a list in another order.
func (s *dice) mixed(l []api.Event) []api.Event {
	l = slices.Clone(l)
	for i := range l {
		j := i + s.roll(len(l)-i)
		l[i], l[j] = l[j], l[i]
	}
	return l
}

// dot is the dot of a replica and a number.
func dot(r, n int) api.Dot { return api.Dot{R: r, N: n} }

// made is an event of a kind, of the key k, that has seen nothing.
func made(kind, r, n, time int, value string, ref api.Dot) api.Event {
	return api.Event{Dot: dot(r, n), Time: time, Op: api.Op{Kind: kind, Key: "k", Value: value, Ref: ref}}
}

// push is a Push event, and one that hangs on nothing.
func push(r, n, time int, value string, ref api.Dot) api.Event {
	return made(api.Push, r, n, time, value, ref)
}

func root(r, n, time int, value string) api.Event { return push(r, n, time, value, api.Dot{}) }

// node is a Push event of replica 1 whose number is its time, behind the one with another number, or behind none.
func node(n int, value string, ref int) api.Event {
	if ref == 0 {
		return root(1, n, n, value)
	}
	return push(1, n, n, value, dot(1, ref))
}

// keyed is an event with another key.
func keyed(e api.Event, key string) api.Event {
	e.Op.Key = key
	return e
}

// seeing is an event that has seen a vector.
func seeing(e api.Event, seen api.VV) api.Event {
	e.Deps = seen
	return e
}

// all is a vector that has each dot of each replica.
func all() api.VV {
	var v api.VV
	for r := range v {
		v[r] = top
	}
	return v
}

// noKinds is numbers that are no kind, some of them alike Push, LRem or Del in their lowest bits.
func noKinds() []int {
	return []int{
		0, 12, 13, -1, -9, -10, -11, 1<<8 + 9, 1<<8 + 10, 1<<16 + 9, 1<<32 + 9, 1<<32 + 11, math.MinInt, math.MinInt + 9, math.MaxInt,
	}
}

// oddDots is dots that can't be, but for the last one.
func oddDots() []api.Dot {
	return []api.Dot{
		{}, dot(0, -1), dot(-1, 1), dot(-1, -1), dot(16, 1), dot(17, 1), dot(1, 0), dot(1, top+1), dot(1<<32, 1), dot(1, 1<<32+1),
		dot(math.MinInt, math.MinInt), dot(math.MaxInt, math.MaxInt), dot(last, top),
	}
}

// later is whether b is later than a by layer 5's words.
func later(b, a api.Event) bool {
	return b.Time > a.Time || b.Time == a.Time && (b.Dot.R > a.Dot.R || b.Dot.R == a.Dot.R && b.Dot.N > a.Dot.N)
}

// has is whether a vector has a dot by layer 3's words.
func has(v api.VV, d api.Dot) bool {
	return d.R >= 0 && d.R <= last && d.N >= 1 && d.N <= top && d.N <= v[d.R]
}

// plainNodes is a list's nodes by the document's words.
func plainNodes(l []api.Event, key string) []api.Event {
	return slices.DeleteFunc(slices.Clone(l), func(e api.Event) bool { return e.Op.Kind != 9 || e.Op.Key != key })
}

// plainParent is the place of a node's parent by the document's words, or -1.
func plainParent(nodes []api.Event, e api.Event) int {
	if e.Op.Ref.R == 0 && e.Op.Ref.N == 0 {
		return -1
	}
	return slices.IndexFunc(nodes, func(p api.Event) bool { return p.Dot == e.Op.Ref && later(e, p) })
}

// plainOrder is Order by the document's words: again and again the first of those that are left on a node of which
// no other one is later, and then all that hangs on it.
func plainOrder(l []api.Event, key string) []api.Event {
	nodes := plainNodes(l, key)
	var order []api.Event
	var behind func(parent int)
	behind = func(parent int) {
		var left []int
		for i, e := range nodes {
			if plainParent(nodes, e) == parent {
				left = append(left, i)
			}
		}
		for len(left) > 0 {
			at := slices.IndexFunc(left, func(i int) bool {
				return !slices.ContainsFunc(left, func(j int) bool { return later(nodes[j], nodes[i]) })
			})
			order = append(order, nodes[left[at]])
			behind(left[at])
			left = slices.Delete(left, at, at+1)
		}
	}
	behind(-1)
	return order
}

// plainEnds is whether an event ends a node by layer 10's words.
func plainEnds(b, a api.Event) bool {
	return has(b.Deps, a.Dot) && b.Op.Key == a.Op.Key && (b.Op.Kind == 11 || b.Op.Kind == 10 && b.Op.Ref == a.Dot)
}

// plainItems is Items by the document's words: each node held against each event.
func plainItems(l []api.Event, key string) []api.Event {
	return slices.DeleteFunc(plainOrder(l, key), func(a api.Event) bool {
		return slices.ContainsFunc(l, func(b api.Event) bool { return plainEnds(b, a) })
	})
}

// isOrder holds Order of a key against what it shall tell.
func isOrder(t *testing.T, what string, l []api.Event, key string, want []api.Event) {
	t.Helper()
	if got := Order(l, key); !slices.Equal(got, want) {
		t.Errorf("%s: Order of %q of %v: %v, not %v", what, key, few(l), few(got), few(want))
	}
}

// isItems holds Items of a key against what it shall tell, and Anchor with it, if the list isn't too long for that.
func isItems(t *testing.T, what string, l []api.Event, key string, want []api.Event) {
	t.Helper()
	if got := Items(l, key); !slices.Equal(got, want) {
		t.Errorf("%s: Items of %q of %v: %v, not %v", what, key, few(l), few(got), few(want))
	}
	if len(l) > 1000 {
		return
	}
	isAnchor(t, what, l, key, 0, api.Dot{})
	for i, e := range want {
		isAnchor(t, what, l, key, i+1, e.Dot)
	}
	for _, at := range []int{len(want) + 1, len(want) + 2, -1, -len(want) - 1, math.MinInt, math.MaxInt} {
		noAnchor(t, what, l, key, at)
	}
}

// isAnchor holds Anchor of a place that there is against what it shall tell.
func isAnchor(t *testing.T, what string, l []api.Event, key string, at int, want api.Dot) {
	t.Helper()
	if d, e := Anchor(l, key, at); d != want || e != api.OK {
		t.Errorf("%s: Anchor of %q of %v at %d: %v, %d, not %v", what, key, few(l), at, d, e, want)
	}
}

// noAnchor holds that there is no such place; the dot is zero then (R2).
func noAnchor(t *testing.T, what string, l []api.Event, key string, at int) {
	t.Helper()
	if d, e := Anchor(l, key, at); d != (api.Dot{}) || e != api.ErrNone {
		t.Errorf("%s: Anchor of %q of %v at %d: %v, %d", what, key, few(l), at, d, e)
	}
}

// few is a list's first events: a long one isn't told whole with what is wrong.
func few(l []api.Event) []api.Event { return l[:min(len(l), 9)] }

// values is the values of events, one behind the other.
func values(l []api.Event) string {
	var s strings.Builder
	for _, e := range l {
		s.WriteString(e.Op.Value)
	}
	return s.String()
}

// asTold holds all that is told of a list against the document's words: of each key that there is, and of others.
func asTold(t *testing.T, what string, l []api.Event) {
	t.Helper()
	for _, key := range keys(l) {
		isOrder(t, what, l, key, plainOrder(l, key))
		isItems(t, what, l, key, plainItems(l, key))
	}
}

// keys is the keys of a list's events, and some others, each once.
func keys(l []api.Event) []string {
	all := []string{"", "k", "j", "nowhere"}
	for _, e := range l {
		all = append(all, e.Op.Key)
	}
	slices.Sort(all)
	return slices.Compact(all)
}

// tells holds the values of the key k, in its order and of its items, against what they shall be, and all that is told
// of the list against the document's words.
func tells(t *testing.T, what string, l []api.Event, order, items string) {
	t.Helper()
	if got := values(Order(l, "k")); got != order {
		t.Errorf("%s: Order of %v: %q, not %q", what, few(l), got, order)
	}
	if got := values(Items(l, "k")); got != items {
		t.Errorf("%s: Items of %v: %q, not %q", what, few(l), got, items)
	}
	asTold(t, what, l)
}

// orders calls a function with each order of events.
func orders(l []api.Event, do func(l []api.Event)) {
	l = slices.Clone(l)
	var from func(n int)
	from = func(n int) {
		if n == len(l) {
			do(slices.Clone(l))
			return
		}
		for i := n; i < len(l); i++ {
			l[n], l[i] = l[i], l[n]
			from(n + 1)
			l[n], l[i] = l[i], l[n]
		}
	}
	from(0)
}

// inEachOrder is tells of each order of events.
func inEachOrder(t *testing.T, what string, l []api.Event, order, items string) {
	t.Helper()
	orders(l, func(l []api.Event) { tells(t, what, l, order, items) })
}

// junk is an event of few times, dots, Refs and keys, most of them Push, so that many hang on others, and many dots are
// had by several. It may be one that can't be.
func (s *dice) junk() api.Event {
	e := push(s.roll(3), 1+s.roll(3), s.roll(4), string(rune('a'+s.roll(26))), dot(s.roll(3), 1+s.roll(3)))
	e.Op.Key = []string{"k", "k", "k", "k", "k", "j", ""}[s.roll(7)]
	switch s.roll(8) {
	case 0:
		e.Op.Kind, e.Deps = api.LRem, api.VV{s.roll(4), s.roll(4), s.roll(4)}
	case 1:
		e.Op.Ref = api.Dot{}
	}
	switch s.roll(20) {
	case 0:
		e.Op.Kind, e.Deps = 1+s.roll(11), api.VV{s.roll(4) - 1, s.roll(4) - 1, s.roll(4) - 1}
	case 1:
		e.Op.Kind = noKinds()[s.roll(len(noKinds()))]
	case 2:
		e.Dot = oddDots()[s.roll(len(oddDots()))]
	case 3:
		e.Op.Ref = oddDots()[s.roll(len(oddDots()))]
	case 4:
		e.Time = []int{math.MinInt, -1, math.MaxInt}[s.roll(3)]
	case 5:
		e.Deps = api.VV{math.MinInt, math.MaxInt, -1, top + 1}
	case 6:
		e.Op.Value += strings.Repeat("v", 64)
		e.Op.Field, e.Op.Num = "f", s.roll(9)-4
	}
	return e
}

// junks is a list of such events, some of which stand there twice.
func (s *dice) junks(most int) []api.Event {
	var l []api.Event
	for range s.roll(most + 1) {
		l = append(l, s.junk())
		if s.roll(6) == 0 {
			l = append(l, l[s.roll(len(l))])
		}
	}
	return l
}

// unlike is a list without those events whose dots stand ahead of them.
func unlike(l []api.Event) []api.Event {
	var m []api.Event
	for _, e := range l {
		if !slices.ContainsFunc(m, func(b api.Event) bool { return b.Dot == e.Dot }) {
			m = append(m, e)
		}
	}
	return m
}
