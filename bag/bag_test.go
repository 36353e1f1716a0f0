package bag

import (
	"fmt"
	"math"
	"slices"
	"testing"

	"polyphony/api"
)

// last and top are the last replica and the greatest number of a dot, as the document says them.
const (
	last = 15
	top  = 1 << 20
)

// at is a dot.
func at(r, n int) api.Dot { return api.Dot{R: r, N: n} }

// all is a vector with one number for every replica.
func all(n int) api.VV {
	var v api.VV
	for r := range v {
		v[r] = n
	}
	return v
}

// put is v with n for replica r.
func put(v api.VV, r, n int) api.VV {
	v[r] = n
	return v
}

// dice is numbers that look like no pattern, the same ones each time.
type dice uint32

func (s *dice) roll(n int) int {
	*s = *s*1664525 + 1013904223
	return int(*s>>8) % n
}

// wrongDots is dots that can't be: by the replica, by the number, and by both.
func wrongDots() []api.Dot {
	replicas := []int{math.MinInt, -16, -1, 16, 17, 1 << 32, math.MaxInt}
	numbers := []int{math.MinInt, -top, -1, 0, top + 1, 1 << 32, math.MaxInt}
	l := []api.Dot{}
	for _, r := range replicas {
		for _, n := range append(numbers, 1, 2, top) {
			l = append(l, at(r, n))
		}
	}
	for _, r := range []int{0, 7, last} {
		for _, n := range numbers {
			l = append(l, at(r, n))
		}
	}
	return l
}

// rightDots is dots that can be, the first and the last ones among them.
func rightDots() []api.Dot {
	l := []api.Dot{}
	for _, r := range []int{0, 1, 7, last} {
		for _, n := range []int{1, 2, 3, 77, top - 1, top} {
			l = append(l, at(r, n))
		}
	}
	return l
}

// lessDot is dots' order by the document's words.
func lessDot(a, b api.Dot) bool {
	return a.R < b.R || a.R == b.R && a.N < b.N
}

// has is whether a vector has a dot by layer 3's words.
func has(v api.VV, d api.Dot) bool {
	return d.R >= 0 && d.R <= last && d.N >= 1 && d.N <= top && d.N <= v[d.R]
}

// plain is a bag by the document's words: a list, in dots' order, that is gone through at each call.
type plain[T any] []Item[T]

func (p *plain[T]) remove(d api.Dot) bool {
	ahead := len(*p)
	*p = slices.DeleteFunc(*p, func(i Item[T]) bool { return i.Dot == d })
	return len(*p) < ahead
}

func (p *plain[T]) put(d api.Dot, x T) {
	p.remove(d)
	place := 0
	for place < len(*p) && lessDot((*p)[place].Dot, d) {
		place++
	}
	*p = slices.Insert(*p, place, Item[T]{d, x})
}

func (p *plain[T]) drop(v api.VV, where func(x T) bool) int {
	ahead := len(*p)
	*p = slices.DeleteFunc(*p, func(i Item[T]) bool { return has(v, i.Dot) && where(i.X) })
	return ahead - len(*p)
}

// is holds all that a bag tells against what it shall tell; only the dots of want have something.
func is[T comparable](t *testing.T, what string, b *Bag[T], want ...Item[T]) {
	t.Helper()
	if got := b.Items(); !slices.Equal(got, want) {
		t.Errorf("%s: Items: %v, not %v", what, got, want)
	}
	if n := b.Len(); n != len(want) {
		t.Errorf("%s: Len: %d, not %d", what, n, len(want))
	}
	for _, i := range want {
		if x, ok := b.Get(i.Dot); x != i.X || !ok {
			t.Errorf("%s: Get(%v): %v, %t, not %v, true", what, i.Dot, x, ok, i.X)
		}
	}
}

// lacks holds that nothing lies under dots (R2: with a zero thing beside the false).
func lacks[T comparable](t *testing.T, what string, b *Bag[T], dots ...api.Dot) {
	t.Helper()
	var none T
	for _, d := range dots {
		if x, ok := b.Get(d); x != none || ok {
			t.Errorf("%s: Get(%v): %v, %t", what, d, x, ok)
		}
	}
}

// goes holds how many things a Drop takes away against how many it shall.
func goes[T any](t *testing.T, what string, b *Bag[T], v api.VV, where func(x T) bool, want int) {
	t.Helper()
	if n := b.Drop(v, where); n != want {
		t.Errorf("%s: Drop(%v): %d, not %d", what, v, n, want)
	}
}

// removes holds whether a Remove finds something against whether it shall.
func removes[T any](t *testing.T, what string, b *Bag[T], d api.Dot, want bool) {
	t.Helper()
	if ok := b.Remove(d); ok != want {
		t.Errorf("%s: Remove(%v): %t, not %t", what, d, ok, want)
	}
}

// text is an item that has a text.
func text(r, n int, x string) Item[string] { return Item[string]{at(r, n), x} }

// filled is a bag of such items.
func filled[T any](items ...Item[T]) *Bag[T] {
	b := New[T]()
	for _, i := range items {
		b.Put(i.Dot, i.X)
	}
	return b
}

// P9.1: the document's example.
func TestExample(t *testing.T) {
	b := New[string]()
	b.Put(at(1, 2), "a")
	b.Put(at(0, 1), "b")
	is(t, "both", b, text(0, 1, "b"), text(1, 2, "a"))
	goes(t, "0 3", b, api.VV{0, 3}, nil, 1)
	is(t, "b alone", b, text(0, 1, "b"))
	lacks(t, "b alone", b, at(1, 2))
}

// P9.1: a bag with nothing in it, New's and the zero one, tells of nothing, whatever it is asked.
func TestEmpty(t *testing.T) {
	var zero Bag[string]
	for _, b := range []*Bag[string]{New[string](), &zero, new(Bag[string])} {
		is(t, "new", b)
		for _, d := range append(rightDots(), wrongDots()...) {
			lacks(t, "new", b, d)
			removes(t, "new", b, d, false)
		}
		for _, v := range []api.VV{{}, all(top), all(math.MaxInt), all(math.MinInt)} {
			goes(t, "new", b, v, nil, 0)
			goes(t, "new", b, v, func(string) bool { t.Error("asked of nothing"); return true }, 0)
		}
		is(t, "still", b)
	}
}

// P9.1: a bag with one thing; the things may be of any type, of the zero value too.
func TestOneThing(t *testing.T) {
	one(t, "a", "")
	one(t, "", "x")
	one(t, 7, -1)
	one(t, 0, 1)
	one(t, true, false)
	one(t, false, true)
	one(t, 2.5, math.Inf(-1))
	one(t, struct{}{}, struct{}{})
	one(t, [2]string{"a", "b"}, [2]string{})
	one(t, api.Event{Dot: at(1, 1), Op: api.Op{Kind: api.Set, Key: "k"}}, api.Event{})
	one(t, new(int), nil)
	one[any](t, nil, 3)
	one[any](t, "a", at(1, 1))
	one[error](t, nil, fmt.Errorf("e"))
	one(t, Item[int]{at(1, 2), 3}, Item[int]{})
}

// one goes through each call of a bag with one thing.
func one[T comparable](t *testing.T, x, other T) {
	t.Helper()
	d := at(3, 4)
	b := New[T]()
	b.Put(d, x)
	is(t, "one", b, Item[T]{d, x})
	lacks(t, "one", b, at(3, 3), at(3, 5), at(2, 4), at(4, 4), at(4, 3), at(0, 0), at(-3, -4))
	b.Put(d, other)
	is(t, "another in its place", b, Item[T]{d, other})
	removes(t, "the next one", b, at(3, 5), false)
	is(t, "the next one removed", b, Item[T]{d, other})
	removes(t, "the one", b, d, true)
	is(t, "removed", b)
	lacks(t, "removed", b, d)
	removes(t, "the one once more", b, d, false)
	is(t, "removed twice", b)
	b.Put(d, x)
	is(t, "put anew", b, Item[T]{d, x})
	goes(t, "one less", b, put(all(top), 3, 3), nil, 0)
	is(t, "not dropped", b, Item[T]{d, x})
	goes(t, "just it", b, put(api.VV{}, 3, 4), nil, 1)
	is(t, "dropped", b)
	lacks(t, "dropped", b, d)
	goes(t, "once more", b, all(top), nil, 0)
	is(t, "dropped twice", b)
}

// P9.1: things of types that can't be compared, or aren't even like themselves, lie and go as others do.
func TestThingsThatArentCompared(t *testing.T) {
	f := New[func() int]()
	f.Put(at(1, 1), func() int { return 7 })
	f.Put(at(0, 1), nil)
	if x, ok := f.Get(at(1, 1)); !ok || x == nil || x() != 7 {
		t.Errorf("a function: %t", ok)
	}
	if x, ok := f.Get(at(0, 1)); !ok || x != nil || f.Len() != 2 {
		t.Errorf("a nil function: %t, of %d", ok, f.Len())
	}
	goes(t, "functions", f, all(1), func(x func() int) bool { return x == nil }, 1)
	if l := f.Items(); len(l) != 1 || l[0].Dot != at(1, 1) || l[0].X() != 7 {
		t.Errorf("the functions left: %d", len(l))
	}

	n := filled(Item[float64]{at(2, 1), math.NaN()}, Item[float64]{at(1, 1), math.NaN()})
	n.Put(at(2, 1), math.NaN())
	if l := n.Items(); len(l) != 2 || l[0].Dot != at(1, 1) || l[1].Dot != at(2, 1) || !math.IsNaN(l[1].X) {
		t.Errorf("no numbers: %v", l)
	}
	removes(t, "no number", n, at(1, 1), true)
	goes(t, "no numbers", n, all(1), math.IsNaN, 1)
	is(t, "no numbers", n)

	s := filled(Item[[]int]{at(2, 1), []int{1, 2}}, Item[[]int]{at(2, 2), nil})
	if x, ok := s.Get(at(2, 1)); !ok || !slices.Equal(x, []int{1, 2}) {
		t.Errorf("a list: %v, %t", x, ok)
	}
	if x, ok := s.Get(at(2, 2)); !ok || len(x) != 0 || s.Len() != 2 {
		t.Errorf("a list of none: %v, %t", x, ok)
	}
	goes(t, "lists", s, all(2), func(x []int) bool { return len(x) == 0 }, 1)
	if l := s.Items(); len(l) != 1 || l[0].Dot != at(2, 1) || !slices.Equal(l[0].X, []int{1, 2}) {
		t.Errorf("the lists left: %v", l)
	}
}

// P9.1: what is put lies in the place of what lay there; what lies under other dots stays.
func TestPutAgain(t *testing.T) {
	b := filled(text(1, 1, "a"), text(1, 2, "b"), text(2, 1, "c"))
	b.Put(at(1, 2), "d")
	is(t, "another", b, text(1, 1, "a"), text(1, 2, "d"), text(2, 1, "c"))
	b.Put(at(1, 2), "d")
	is(t, "the same", b, text(1, 1, "a"), text(1, 2, "d"), text(2, 1, "c"))
	b.Put(at(1, 2), "")
	is(t, "the zero one", b, text(1, 1, "a"), text(1, 2, ""), text(2, 1, "c"))
	removes(t, "the zero one", b, at(1, 2), true)
	is(t, "without", b, text(1, 1, "a"), text(2, 1, "c"))
	lacks(t, "without: not what lay there first", b, at(1, 2))
	b.Put(at(1, 1), "e")
	b.Put(at(2, 1), "f")
	is(t, "both others", b, text(1, 1, "e"), text(2, 1, "f"))
}

// P9.1: one thing lies under two dots, if it is put under both.
func TestOneThingTwice(t *testing.T) {
	b := filled(text(1, 1, "a"), text(1, 2, "a"), text(2, 1, "a"))
	is(t, "three", b, text(1, 1, "a"), text(1, 2, "a"), text(2, 1, "a"))
	removes(t, "the second", b, at(1, 2), true)
	is(t, "two", b, text(1, 1, "a"), text(2, 1, "a"))
	goes(t, "the first", b, api.VV{0, 1}, func(x string) bool { return x == "a" }, 1)
	is(t, "one", b, text(2, 1, "a"))
}

// orders calls a function with each order of things.
func orders[T any](l []T, do func(l []T)) {
	var from func(n int)
	from = func(n int) {
		if n == len(l) {
			do(slices.Clone(l))
			return
		}
		for i := n; i < len(l); i++ {
			l[n], l[i] = l[i], l[n]
			from(n + 1)
			l[n], l[i] = l[i], l[n]
		}
	}
	from(0)
}

// P9.1, R6: in whatever order things were put, they are told by R, then by N, as numbers, not as texts.
func TestItemsOfEachOrder(t *testing.T) {
	for _, want := range [][]Item[string]{
		{},
		{text(4, 4, "a")},
		{text(3, 1, "e"), text(3, 2, "d"), text(3, 9, "c"), text(3, 10, "b"), text(3, 100, "a")},
		{text(0, 5, "e"), text(1, 5, "d"), text(2, 5, "c"), text(10, 5, "b"), text(15, 5, "a")},
		{text(0, 3, "f"), text(0, top, "e"), text(1, 2, "d"), text(1, 4, "c"), text(2, 1, "b"), text(11, 1, "a")},
		{text(math.MinInt, 1, "f"), text(-1, 2, "e"), text(0, math.MinInt, "d"), text(0, -1, "c"), text(0, 0, "b"), text(16, 1, "a")},
		{text(math.MinInt, math.MinInt, "a"), text(math.MinInt, math.MaxInt, "b"), text(0, 0, "c"), text(math.MaxInt, math.MinInt, "d"), text(math.MaxInt, math.MaxInt, "e")},
	} {
		orders(slices.Clone(want), func(l []Item[string]) {
			is(t, "in some order", filled(l...), want...)
			b := filled(append(l, text(9, 9, "x"), text(0, 4, "y"))...)
			removes(t, "one more", b, at(9, 9), true)
			removes(t, "two more", b, at(0, 4), true)
			is(t, "with others between", b, want...)
		})
	}
}

// P9.1: Remove takes away one thing alone, wherever it stands.
func TestRemoveEach(t *testing.T) {
	l := []Item[string]{text(0, 1, "a"), text(0, 2, "b"), text(1, 1, "c"), text(2, 7, "d"), text(last, top, "e")}
	for i := range l {
		b := filled(l...)
		left := slices.Delete(slices.Clone(l), i, i+1)
		removes(t, "there", b, l[i].Dot, true)
		is(t, "one less", b, left...)
		lacks(t, "one less", b, l[i].Dot)
		removes(t, "not any more", b, l[i].Dot, false)
		is(t, "no more less", b, left...)
	}
}

// some is five things under dots of three replicas.
func some() []Item[string] {
	return []Item[string]{text(0, 1, "a"), text(0, 3, "b"), text(1, 2, "c"), text(last, 1, "d"), text(last, top, "e")}
}

// P9.1: Drop takes away what lies under the dots that the vector has, and nothing else.
func TestDropByVector(t *testing.T) {
	for _, c := range []struct {
		name string
		v    api.VV
		left string
	}{
		{"none at all", api.VV{}, "abcde"},
		{"none of these", put(api.VV{0, 1, top, top}, 14, top), "abcde"},
		{"the first", api.VV{1}, "bcde"},
		{"no more yet", api.VV{2}, "bcde"},
		{"both of a replica", api.VV{3}, "cde"},
		{"far beyond", api.VV{top}, "cde"},
		{"another replica's", api.VV{0, 2}, "abde"},
		{"the last replica's first", put(api.VV{}, last, 1), "abce"},
		{"one short of the last", put(api.VV{}, last, top-1), "abce"},
		{"the last", put(api.VV{}, last, top), "abc"},
		{"the first of each", put(api.VV{1, 2}, last, 1), "be"},
		{"just all", put(api.VV{3, 2}, last, top), ""},
		{"all that there can be", all(top), ""},
		{"below 0", all(-1), "abcde"},
		{"far below 0", all(math.MinInt), "abcde"},
		{"one below 0", api.VV{-1, 2}, "abde"},
		{"above MaxSeq", all(top + 1), ""},
		{"far above MaxSeq", all(math.MaxInt), ""},
		{"one above, one below", api.VV{math.MaxInt, math.MinInt}, "cde"},
	} {
		b := filled(some()...)
		left := slices.DeleteFunc(some(), func(i Item[string]) bool { return !slices.Contains([]byte(c.left), i.X[0]) })
		goes(t, c.name, b, c.v, nil, 5-len(left))
		is(t, c.name, b, left...)
		goes(t, c.name+", once more", b, c.v, nil, 0)
		is(t, c.name+", once more", b, left...)
		for _, i := range some() {
			if !slices.Contains(left, i) {
				lacks(t, c.name, b, i.Dot)
				removes(t, c.name, b, i.Dot, false)
			}
		}
		is(t, c.name+", and removed", b, left...)
	}
}

// P9.1: of what the vector has only that goes of which where is true.
func TestDropByWhere(t *testing.T) {
	for _, c := range []struct {
		name  string
		v     api.VV
		where string
		left  string
	}{
		{"true of none", all(top), "", "abcde"},
		{"true of others", all(top), "xyz", "abcde"},
		{"true of one", all(top), "c", "abde"},
		{"true of some", all(top), "abe", "cd"},
		{"true of all", all(top), "abcde", ""},
		{"true of all, of which the vector has some", api.VV{1, 2}, "abcde", "bde"},
		{"true of some, of which the vector has some", api.VV{3, 2}, "bde", "acde"},
		{"true of just those that the vector lacks", api.VV{3, 2}, "de", "abcde"},
		{"true of all, of which the vector has none", api.VV{}, "abcde", "abcde"},
		{"true of some, of a vector that can't be", all(math.MaxInt), "ae", "bcd"},
		{"true of all, of a vector below 0", all(-1), "abcde", "abcde"},
	} {
		b := filled(some()...)
		where := func(x string) bool { return slices.Contains([]byte(c.where), x[0]) }
		left := slices.DeleteFunc(some(), func(i Item[string]) bool { return !slices.Contains([]byte(c.left), i.X[0]) })
		goes(t, c.name, b, c.v, where, 5-len(left))
		is(t, c.name, b, left...)
		goes(t, c.name+", once more", b, c.v, where, 0)
		is(t, c.name+", once more", b, left...)
	}
}

// P9.1: behind a Drop a dot is as free as it was at first.
func TestPutBehindDrop(t *testing.T) {
	b := filled(some()...)
	goes(t, "all", b, all(top), nil, 5)
	is(t, "all", b)
	b.Put(at(0, 3), "f")
	is(t, "one put anew", b, text(0, 3, "f"))
	removes(t, "one put anew", b, at(0, 3), true)
	removes(t, "one put anew", b, at(0, 3), false)
	b.Put(at(0, 1), "g")
	goes(t, "as the vector has it", b, api.VV{1}, nil, 1)
	is(t, "none", b)
}

// P9.1, R1: things lie under dots that can't be as under others; no vector has these, so that no Drop takes them away.
func TestDotsThatCantBe(t *testing.T) {
	b := New[int]()
	var p plain[int]
	for i, d := range wrongDots() {
		lacks(t, "not yet", b, d)
		removes(t, "not yet", b, d, false)
		b.Put(d, i)
		p.put(d, i)
		is(t, "one more", b, p...)
	}
	for _, v := range []api.VV{{}, all(1), all(top), all(top + 1), all(math.MaxInt), all(-1), all(math.MinInt)} {
		goes(t, "none that can be", b, v, nil, 0)
		goes(t, "none that can be", b, v, func(int) bool { return true }, 0)
		is(t, "none that can be", b, p...)
	}
	for i, d := range rightDots() {
		b.Put(d, -i)
	}
	goes(t, "those that can be", b, all(math.MaxInt), nil, len(rightDots()))
	is(t, "the others stay", b, p...)
	for _, d := range wrongDots() {
		removes(t, "in the end", b, d, true)
		p.remove(d)
		lacks(t, "in the end", b, d)
		is(t, "one less", b, p...)
	}
}

// P9.1, P9.2, R6: many calls of all kinds on the zero bag and on New's, held against a plain list.
func TestManyCalls(t *testing.T) {
	for seed := range 60 {
		s := dice(seed)
		var zero Bag[int]
		made := New[int]()
		var p plain[int]
		for range 120 {
			d, x := at(s.roll(4)-1, s.roll(5)), s.roll(100)
			switch s.roll(8) {
			case 0, 1, 2, 3:
				zero.Put(d, x)
				made.Put(d, x)
				p.put(d, x)
			case 4, 5:
				want := p.remove(d)
				removes(t, "the zero bag", &zero, d, want)
				removes(t, "New's", made, d, want)
			case 6:
				v := api.VV{s.roll(5), s.roll(5), s.roll(5)}
				odd := func(x int) bool { return x%2 == 1 }
				want := p.drop(v, odd)
				goes(t, "the zero bag", &zero, v, odd, want)
				goes(t, "New's", made, v, odd, want)
			case 7:
				v := api.VV{s.roll(2), s.roll(2), s.roll(2)}
				want := p.drop(v, func(int) bool { return true })
				goes(t, "the zero bag", &zero, v, nil, want)
				goes(t, "New's", made, v, nil, want)
			}
			is(t, "the zero bag", &zero, p...)
			is(t, "New's", made, p...)
		}
		if t.Failed() {
			t.Fatalf("at seed %d", seed)
		}
	}
}

// trace is what a bag answers at a run of calls, but for the things themselves.
func trace[T any](x func(i int) T, seed int) []string {
	s := dice(seed)
	b := New[T]()
	var l []string
	for i := range 200 {
		d, told := at(s.roll(3), s.roll(6)), ""
		switch s.roll(6) {
		case 0, 1, 2:
			b.Put(d, x(i))
		case 3:
			told = fmt.Sprint(b.Remove(d))
		case 4:
			_, ok := b.Get(d)
			told = fmt.Sprint(ok)
		case 5:
			told = fmt.Sprint(b.Drop(api.VV{s.roll(4), s.roll(4), s.roll(4)}, nil))
		}
		for _, i := range b.Items() {
			told += fmt.Sprint(i.Dot)
		}
		l = append(l, fmt.Sprint(told, b.Len()))
	}
	return l
}

// P9.2: what a bag has plays no part in what it does: bags of all types, at the same calls, answer alike.
func TestThingsPlayNoPart(t *testing.T) {
	for seed := range 20 {
		want := trace(func(i int) int { return i }, seed)
		for name, got := range map[string][]string{
			"one number":        trace(func(int) int { return 0 }, seed),
			"numbers that sink": trace(func(i int) int { return -i }, seed),
			"texts":             trace(func(i int) string { return fmt.Sprint(i) }, seed),
			"bools":             trace(func(i int) bool { return i%2 == 0 }, seed),
			"no numbers":        trace(func(int) float64 { return math.NaN() }, seed),
			"nothing":           trace(func(int) struct{} { return struct{}{} }, seed),
			"lists":             trace(func(i int) []int { return make([]int, i%3) }, seed),
			"nil functions":     trace(func(int) func() { return nil }, seed),
			"anything":          trace(func(i int) any { return []any{nil, 1, []int{}}[i%3] }, seed),
			"dots":              trace(func(i int) api.Dot { return at(-i, 9-i) }, seed),
			"bags":              trace(func(int) *Bag[int] { return nil }, seed),
		} {
			if !slices.Equal(got, want) {
				t.Errorf("%s, at seed %d: not as numbers that rise", name, seed)
			}
		}
	}
}

// P9.2: a nil Bag forgets what is put, and has nothing.
func TestNilBag(t *testing.T) {
	var b *Bag[string]
	for _, d := range append(rightDots(), wrongDots()...) {
		b.Put(d, "a")
		is(t, "nil", b)
		lacks(t, "nil", b, d)
		removes(t, "nil", b, d, false)
	}
	for _, v := range []api.VV{{}, all(top), all(math.MaxInt), all(math.MinInt)} {
		goes(t, "nil", b, v, nil, 0)
		goes(t, "nil", b, v, func(string) bool { t.Error("asked of nothing"); return true }, 0)
	}
	is(t, "nil", b)
	if b != nil {
		t.Error("not nil any more")
	}
	is(t, "nil, of numbers", (*Bag[int])(nil))
	is(t, "nil, of anything", (*Bag[any])(nil))
}

// P9.1, R6: where is asked in dots' order, once each, and only of what the vector has: so one that remembers answers alike.
func TestWhereIsAskedInOrder(t *testing.T) {
	orders(some(), func(l []Item[string]) {
		b := filled(l...)
		asked := ""
		goes(t, "every second", b, put(api.VV{3, 1}, last, top), func(x string) bool {
			asked += x
			return len(asked)%2 == 0
		}, 2)
		if asked != "abde" {
			t.Errorf("asked of %s", asked)
		}
		is(t, "every second", b, text(0, 1, "a"), text(1, 2, "c"), text(last, 1, "d"))
	})
}

// R1: a where that panics lets no Drop panic: it isn't true of the thing at which it does.
func TestWhereThatPanics(t *testing.T) {
	b := filled(some()...)
	goes(t, "at some", b, all(top), func(x string) bool {
		if x == "b" || x == "e" {
			panic(x)
		}
		return x != "c"
	}, 2)
	is(t, "at some", b, text(0, 3, "b"), text(1, 2, "c"), text(last, top, "e"))
	goes(t, "at all", b, all(top), func(x string) bool { return []bool{}[len(x)] }, 0)
	is(t, "at all", b, text(0, 3, "b"), text(1, 2, "c"), text(last, top, "e"))
	goes(t, "at none", b, all(top), nil, 3)
	is(t, "at none", b)
}

// R3: what Items answers is a list of its own: neither a later call nor who has it changes the other one's.
func TestItemsAreNew(t *testing.T) {
	b := filled(some()...)
	first, second := b.Items(), b.Items()
	for i := range first {
		first[i] = text(9, 9, "x")
	}
	if !slices.Equal(second, some()) {
		t.Errorf("the other list: %v", second)
	}
	is(t, "behind a change of the list", b, some()...)
	_ = append(second[:1], text(8, 8, "y"), text(8, 9, "z"))
	is(t, "behind a change in the list's memory", b, some()...)
	held := b.Items()
	b.Put(at(0, 1), "w")
	b.Put(at(0, 0), "v")
	removes(t, "one", b, at(1, 2), true)
	goes(t, "the last ones", b, put(api.VV{}, last, top), nil, 2)
	if !slices.Equal(held, some()) {
		t.Errorf("the list behind later calls: %v", held)
	}
	is(t, "behind later calls", b, text(0, 0, "v"), text(0, 1, "w"), text(0, 3, "b"))
}

// R3: what goes in stays as it is: a vector, a dot, and a thing that is more than a value.
func TestNothingIsChanged(t *testing.T) {
	v, d, list := put(api.VV{3, 2}, last, top), at(0, 1), []int{1, 2, 3, 4}
	b := New[[]int]()
	b.Put(d, list[:2])
	b.Put(at(0, 2), list[2:2])
	if x, ok := b.Get(d); !ok || !slices.Equal(x, []int{1, 2}) {
		t.Errorf("Get: %v, %t", x, ok)
	}
	removes(t, "one", b, at(0, 2), true)
	b.Put(d, list[3:])
	goes(t, "the other one", b, v, func(x []int) bool { return x[0] == 4 }, 1)
	if !slices.Equal(list, []int{1, 2, 3, 4}) {
		t.Errorf("the things' memory: %v", list)
	}
	if v != put(api.VV{3, 2}, last, top) || d != at(0, 1) {
		t.Errorf("%v, %v", v, d)
	}
}

// R3, R6: reading changes nothing, and one bag tells nothing of another.
func TestBagsAreApart(t *testing.T) {
	a, b := filled(some()...), New[string]()
	for range 3 {
		is(t, "again and again", a, some()...)
		lacks(t, "again and again", a, at(5, 5), at(0, 2))
	}
	is(t, "the other one", b)
	b.Put(at(0, 1), "z")
	is(t, "one", a, some()...)
	is(t, "the other one", b, text(0, 1, "z"))
	goes(t, "one", a, all(top), nil, 5)
	is(t, "one", a)
	is(t, "the other one", b, text(0, 1, "z"))
}

// P9.1: many things, put with the greatest dot first.
func TestManyThings(t *testing.T) {
	const n = 20000
	b := New[int]()
	for i := n; i > 0; i-- {
		b.Put(at(i%16, i), i)
	}
	l := b.Items()
	if len(l) != n || b.Len() != n {
		t.Fatalf("%d items, Len %d", len(l), b.Len())
	}
	for i, item := range l {
		if item.Dot != at(item.X%16, item.X) || i > 0 && !lessDot(l[i-1].Dot, item.Dot) {
			t.Fatalf("at %d: %v", i, item)
		}
	}
	goes(t, "a half", b, all(n/2), nil, n/2)
	goes(t, "a quarter", b, all(n), func(x int) bool { return x%2 == 0 }, n/4)
	if b.Len() != n/4 || len(b.Items()) != n/4 {
		t.Errorf("%d left", b.Len())
	}
}
