package matrix

import (
	"math"
	"slices"
	"testing"

	"polyphony/api"
)

// The limits, as the document says them.
const (
	most = 16
	last = 15
	top  = 1 << 20
)

// dice is numbers that look like no pattern, the same ones each time.
type dice uint32

func (s *dice) roll(n int) int {
	*s = *s*1664525 + 1013904223
	return int(*s>>8) % n
}

// pick is one of several things.
func pick[T any](s *dice, l ...T) T { return l[s.roll(len(l))] }

// mixed is a list's things in no order.
func mixed[T any](s *dice, l []T) []T {
	m := slices.Clone(l)
	for i := len(m) - 1; i > 0; i-- {
		j := s.roll(i + 1)
		m[i], m[j] = m[j], m[i]
	}
	return m
}

// put is v with n for replica r.
func put(v api.VV, r, n int) api.VV {
	v[r] = n
	return v
}

// all is a vector with one number for every replica.
func all(n int) api.VV {
	var v api.VV
	for r := range v {
		v[r] = n
	}
	return v
}

// seen is what a replica is told to have seen.
type seen struct {
	r int
	v api.VV
}

// some is a vector that can be, of numbers that are small, great, at their edges, or a few of each.
func some(s *dice) api.VV {
	var v api.VV
	for r := range v {
		v[r] = pick(s, 0, 1, s.roll(6), s.roll(6), s.roll(top+1), top-1, top)
	}
	return v
}

// sightings is what several replicas are told to have seen, some of it twice.
func sightings(s *dice, replicas, n int) []seen {
	var l []seen
	for range n {
		l = append(l, seen{s.roll(replicas), some(s)})
		if s.roll(3) == 0 {
			l = append(l, l[s.roll(len(l))])
		}
	}
	return l
}

// plain is a matrix by the document's words: all that each replica was ever told to have seen.
type plain struct{ told [][]api.VV }

// newPlain is New by the document's words.
func newPlain(replicas int) *plain {
	switch {
	case replicas < 1:
		replicas = 1
	case replicas > most:
		replicas = most
	}
	return &plain{told: make([][]api.VV, replicas)}
}

// canBe is whether a vector can be, by the document's words.
func canBe(v api.VV) bool {
	for _, n := range v {
		if n < 0 || n > top {
			return false
		}
	}
	return true
}

func (p *plain) see(r int, v api.VV) api.Errno {
	if r < 0 || r >= len(p.told) || !canBe(v) {
		return api.ErrArg
	}
	p.told[r] = append(p.told[r], v)
	return api.OK
}

func (p *plain) row(r int) api.VV {
	var row api.VV
	if r < 0 || r >= len(p.told) {
		return row
	}
	for q := range row {
		for _, v := range p.told[r] {
			if v[q] > row[q] {
				row[q] = v[q]
			}
		}
	}
	return row
}

func (p *plain) stable() api.VV {
	var v api.VV
	for q := range v {
		v[q] = math.MaxInt
		for r := range p.told {
			if n := p.row(r)[q]; n < v[q] {
				v[q] = n
			}
		}
	}
	return v
}

func (p *plain) cut(seen api.VV) api.VV {
	for r := range p.told {
		if p.row(r)[r] > seen[r] {
			return api.VV{}
		}
	}
	return p.stable()
}

// see tells a matrix what a replica has seen, and holds what it answers against what it should.
func see(t *testing.T, m *Matrix, r int, v api.VV, want api.Errno) {
	t.Helper()
	if e := m.See(r, v); e != want {
		t.Fatalf("See(%d, %v): %d, want %d", r, v, e, want)
	}
}

// same holds a vector against what it should be.
func same(t *testing.T, what string, got, want api.VV) {
	t.Helper()
	if got != want {
		t.Fatalf("%s:\n%v\nwant\n%v", what, got, want)
	}
}

// asThe holds all that a matrix tells against the plain one.
func asThe(t *testing.T, what string, m *Matrix, p *plain) {
	t.Helper()
	for r := -2; r <= most+1; r++ {
		same(t, what+": Row", m.Row(r), p.row(r))
	}
	same(t, what+": Stable", m.Stable(), p.stable())
	for _, v := range []api.VV{{}, all(1), all(top), all(top + 1), all(-1), own(p)} {
		same(t, what+": Cut", m.Cut(v), p.cut(v))
	}
}

// own is how many events each replica has made, as far as it is known.
func own(p *plain) api.VV {
	var v api.VV
	for r := range p.told {
		v[r] = p.row(r)[r]
	}
	return v
}

// wrongNumbers is numbers that no vector that can be has.
func wrongNumbers() []int {
	return []int{-1, -2, math.MinInt, math.MinInt + 1, top + 1, 2 * top, 1 << 32, math.MaxInt - 1, math.MaxInt}
}

// wrongReplicas is replicas that a matrix of so many doesn't have.
func wrongReplicas(replicas int) []int {
	return []int{-1, -2, -most, math.MinInt, math.MinInt + 1, replicas, replicas + 1, most, most + 1, 1 << 32, math.MaxInt - 1, math.MaxInt}
}
