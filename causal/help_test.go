package causal

import (
	"math"
	"slices"
	"testing"

	"polyphony/api"
	"polyphony/event"
)

// The limits, as the document says them.
const (
	last    = 15
	top     = 1 << 20
	topTime = 1<<60 - 1
	topNum  = 1 << 40
	room    = 64
)

// dice is numbers that look like no pattern, the same ones each time.
type dice uint32

func (s *dice) roll(n int) int {
	*s = *s*1664525 + 1013904223
	return int(*s>>8) % n
}

// pick is one of several things.
func pick[T any](s *dice, l ...T) T { return l[s.roll(len(l))] }

// mixed is a list's things in no order.
func mixed[T any](s *dice, l []T) []T {
	m := slices.Clone(l)
	for i := len(m) - 1; i > 0; i-- {
		j := s.roll(i + 1)
		m[i], m[j] = m[j], m[i]
	}
	return m
}

// put is v with n for replica r.
func put(v api.VV, r, n int) api.VV {
	v[r] = n
	return v
}

// all is a vector with one number for every replica.
func all(n int) api.VV {
	var v api.VV
	for r := range v {
		v[r] = n
	}
	return v
}

// made is the event n of a replica that has seen deps, and all that it made itself.
func made(r, n int, deps api.VV) api.Event {
	deps[r] = n - 1
	return api.Event{Dot: api.Dot{R: r, N: n}, Time: n, Deps: deps, Op: api.Op{Kind: api.Del, Key: "k"}}
}

// row is a replica's events from one number to another, that have seen nothing of others.
func row(r, from, to int) []api.Event {
	var l []api.Event
	for n := from; n <= to; n++ {
		l = append(l, made(r, n, api.VV{}))
	}
	return l
}

// plain is a buffer by the document's words: a list, in the order in which events came.
type plain struct{ kept []api.Event }

// has is whether v has a dot that can be.
func has(v api.VV, d api.Dot) bool { return d.N <= v[d.R] }

// isNext is whether an event may be seen, by the document's words.
func isNext(e api.Event, v api.VV) bool {
	for r, n := range e.Deps {
		if n > v[r] {
			return false
		}
	}
	return v[e.Dot.R] < top && e.Dot.N == v[e.Dot.R]+1
}

// offer is Offer by the document's words.
func (p *plain) offer(e api.Event, v api.VV) []api.Event {
	isKept := slices.ContainsFunc(p.kept, func(k api.Event) bool { return k.Dot == e.Dot })
	if event.Right(e) && !has(v, e.Dot) && !isKept && len(p.kept) < room {
		p.kept = append(p.kept, e)
	}
	var told []api.Event
	for {
		var left []api.Event
		first := -1
		for _, k := range p.kept {
			if has(v, k.Dot) {
				continue
			}
			left = append(left, k)
			if isNext(k, v) && (first < 0 || k.Dot.R < left[first].Dot.R || k.Dot.R == left[first].Dot.R && k.Dot.N < left[first].Dot.N) {
				first = len(left) - 1
			}
		}
		p.kept = left
		if first < 0 {
			return told
		}
		e := left[first]
		told = append(told, e)
		p.kept = slices.Delete(left, first, first+1)
		v[e.Dot.R] = e.Dot.N
	}
}

// offer hands an event in, and holds what is told, and how many are kept, against what should be.
func offer(t *testing.T, what string, b *Buffer, e api.Event, v api.VV, kept int, want ...api.Event) {
	t.Helper()
	if got := b.Offer(e, v); !slices.Equal(got, want) {
		t.Fatalf("%s: Offer(%v, %v) told\n%v\nwant\n%v", what, e, v, got, want)
	}
	if b.Len() != kept {
		t.Fatalf("%s: behind Offer(%v, %v): Len %d, want %d", what, e, v, b.Len(), kept)
	}
}

// full is a buffer with that many events kept, replica r's from number 2 on.
func full(t *testing.T, r, n int) *Buffer {
	t.Helper()
	b := New()
	for i, e := range row(r, 2, n+1) {
		offer(t, "filling", b, e, api.VV{}, i+1)
	}
	return b
}

// wrongNumbers is numbers that no vector that can be has.
func wrongNumbers() []int {
	return []int{-1, -2, math.MinInt, math.MinInt + 1, top + 1, 2 * top, 1 << 32, math.MaxInt - 1, math.MaxInt}
}

// wrongEvents is events that can't be, each by one thing.
func wrongEvents() []api.Event {
	good := made(0, 1, api.VV{})
	var l []api.Event
	with := func(change func(e *api.Event)) {
		e := good
		change(&e)
		l = append(l, e)
	}
	for _, r := range []int{-1, last + 1, math.MinInt, math.MaxInt} {
		with(func(e *api.Event) { e.Dot.R = r })
	}
	for _, n := range append(wrongNumbers(), 0, 2) {
		with(func(e *api.Event) { e.Dot.N = n })
		with(func(e *api.Event) { e.Dot.N, e.Deps[0] = n, n })
	}
	for _, n := range wrongNumbers() {
		with(func(e *api.Event) { e.Dot.N, e.Deps[0] = n, n-1 })
		with(func(e *api.Event) { e.Deps[3] = n })
		with(func(e *api.Event) { e.Deps[last] = n })
	}
	for _, n := range []int{-1, topTime + 1, math.MinInt, math.MaxInt} {
		with(func(e *api.Event) { e.Time = n })
	}
	for _, kind := range []int{0, -1, 12, math.MaxInt, math.MinInt} {
		with(func(e *api.Event) { e.Op.Kind = kind })
	}
	with(func(e *api.Event) { e.Op.Key = "" })
	with(func(e *api.Event) { e.Op.Key = string(make([]byte, 65)) })
	with(func(e *api.Event) { e.Op.Field = "f" })
	with(func(e *api.Event) { e.Op.Value = "v" })
	with(func(e *api.Event) { e.Op.Num = 1 })
	with(func(e *api.Event) { e.Op.Ref = api.Dot{R: 0, N: 1} })
	with(func(e *api.Event) { e.Op = api.Op{Kind: api.Incr, Key: "k", Num: topNum + 1} })
	with(func(e *api.Event) { e.Op = api.Op{Kind: api.LRem, Key: "k"} })
	with(func(e *api.Event) { e.Op = api.Op{Kind: api.Push, Key: "k", Ref: api.Dot{R: 1, N: 1}} })
	with(func(e *api.Event) { *e = api.Event{} })
	return l
}

// world is events of several replicas, each of which has seen a part of what was made ahead of it.
func world(s *dice, replicas, n int) []api.Event {
	seen := make([]api.VV, replicas)
	var l []api.Event
	for range n {
		r := s.roll(replicas)
		if s.roll(2) == 0 {
			from := seen[s.roll(replicas)]
			for q, k := range from {
				seen[r][q] = max(seen[r][q], k)
			}
		}
		e := api.Event{Dot: api.Dot{R: r, N: seen[r][r] + 1}, Time: s.roll(9), Deps: seen[r], Op: pick(s,
			api.Op{Kind: api.Set, Key: "k", Value: "v"},
			api.Op{Kind: api.Incr, Key: "t", Num: s.roll(100) - 50},
			api.Op{Kind: api.SAdd, Key: "g", Field: "m"},
			api.Op{Kind: api.Push, Key: "l", Value: "x"},
			api.Op{Kind: api.Del, Key: "k"})}
		seen[r][r]++
		l = append(l, e)
	}
	return l
}
