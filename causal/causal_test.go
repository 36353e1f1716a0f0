package causal

import (
	"math"
	"reflect"
	"slices"
	"strings"
	"testing"

	"polyphony/api"
	"polyphony/bag"
	"polyphony/event"
)

// The document's example: event 2 of replica 0 comes: none; event 1 comes: 1, 2.
func TestExample(t *testing.T) {
	b := New()
	one, two := made(0, 1, api.VV{}), made(0, 2, api.VV{})
	offer(t, "2", b, two, api.VV{}, 1)
	offer(t, "1", b, one, api.VV{}, 0, one, two)
}

// P18.1: Held is 64, New's buffer and the zero one are empty, and do alike.
func TestEmpty(t *testing.T) {
	if Held != 64 {
		t.Errorf("Held: %d", Held)
	}
	var zero Buffer
	one, two := made(0, 1, api.VV{}), made(0, 2, api.VV{})
	for _, b := range []*Buffer{New(), &zero, new(Buffer)} {
		if b.Len() != 0 {
			t.Errorf("Len of an empty one: %d", b.Len())
		}
		offer(t, "2", b, two, api.VV{}, 1)
		offer(t, "2 again", b, two, api.VV{}, 1)
		offer(t, "1", b, one, api.VV{}, 0, one, two)
	}
}

// Each New is a buffer of its own.
func TestBuffersOfTheirOwn(t *testing.T) {
	a, b := New(), New()
	offer(t, "a", a, made(0, 2, api.VV{}), api.VV{}, 1)
	if b.Len() != 0 {
		t.Errorf("what one keeps the other one has: %d", b.Len())
	}
	offer(t, "b", b, made(0, 1, api.VV{}), api.VV{}, 0, made(0, 1, api.VV{}))
	if a.Len() != 1 {
		t.Errorf("what one tells the other one loses: %d", a.Len())
	}
}

// P18.1: the number one above the vector's may be seen, two above waits, at most the vector's is dropped.
func TestNumber(t *testing.T) {
	for _, r := range []int{0, 7, last} {
		for _, n := range []int{0, 1, 5, top - 2, top - 1, top} {
			v := put(api.VV{}, r, n)
			for _, d := range []int{-1, 0, 1, 2, 3} {
				if n+d < 1 || n+d > top {
					continue
				}
				b, e := New(), made(r, n+d, api.VV{})
				switch {
				case d <= 0:
					offer(t, "had", b, e, v, 0)
				case d == 1:
					offer(t, "the next one", b, e, v, 0, e)
				default:
					offer(t, "one further on", b, e, v, 1)
				}
			}
		}
	}
}

// P18.1: Deps that are one above the vector in one place, at it, and below it.
func TestDeps(t *testing.T) {
	for r := range api.MaxReplicas {
		for q := range api.MaxReplicas {
			if q == r {
				continue
			}
			for _, n := range []int{1, 2, top} {
				v := put(put(all(3), q, n-1), r, 4)
				e := made(r, 5, put(all(3), q, n))
				b := New()
				offer(t, "one above in one place", b, e, v, 1)
				offer(t, "at it", b, e, put(v, q, n), 0, e)
			}
			offer(t, "below it", New(), made(r, 5, all(2)), put(all(3), r, 4), 0, made(r, 5, all(2)))
		}
	}
	e := made(1, top, all(top))
	offer(t, "the greatest numbers", New(), e, put(all(top), 1, top-1), 0, e)
	offer(t, "the greatest numbers, one short", New(), e, put(put(all(top), 1, top-1), 2, top-1), 1)
}

// P18.1: rows that wait for one event are told together, by dots, each time the first of those that may be seen.
func TestRows(t *testing.T) {
	b := New()
	key := made(2, 1, api.VV{})
	// Replica 0's second one waits for replica 3's first; replica 1's for the key; replica 3's for replica 1's.
	a1, a2 := made(0, 1, api.VV{0, 0, 1}), made(0, 2, api.VV{0, 0, 1, 1})
	c1, c2 := made(1, 1, api.VV{0, 0, 1}), made(1, 2, api.VV{0, 0, 1})
	d1 := made(3, 1, api.VV{0, 2, 1})
	late := made(2, 2, api.VV{0, 0, 0, 0, 1})
	for i, e := range []api.Event{d1, c2, a2, a1, c1} {
		offer(t, "waiting", b, e, api.VV{}, i+1)
	}
	offer(t, "waiting for what doesn't come", b, late, api.VV{}, 6)
	offer(t, "the key", b, key, api.VV{}, 1, key, a1, c1, c2, d1, a2)
	offer(t, "what it waited for", b, made(4, 1, api.VV{}), api.VV{2, 2, 1, 1, 1}, 0, late)
}

// P18.1: behind each told event it is looked from the first dot on again.
func TestFromTheFirstOn(t *testing.T) {
	b := New()
	// Each of these waits for the one with the next greater replica.
	var l []api.Event
	for r := range last {
		l = append(l, made(r, 1, put(api.VV{}, r+1, 1)), made(r, 2, put(api.VV{}, r+1, 1)))
	}
	for i, e := range l {
		offer(t, "waiting", b, e, api.VV{}, i+1)
	}
	end := made(last, 1, api.VV{})
	want := []api.Event{end}
	// 14's first frees 13's first, which stands ahead of 14's second.
	for r := last - 1; r >= 0; r-- {
		want = append(want, l[2*r])
	}
	for r := range last {
		want = append(want, l[2*r+1])
	}
	offer(t, "the end", b, end, api.VV{}, 0, want...)
}

// P18.1: with Held - 1 kept one more is kept; with Held none is, be it one that may be seen at once.
func TestHeld(t *testing.T) {
	free, first := made(5, 1, api.VV{}), made(0, 1, api.VV{})

	b := full(t, 0, Held-1)
	offer(t, "one that may be seen, into the last place", b, free, api.VV{}, Held-1, free)
	offer(t, "one that waits, into the last place", b, made(6, 2, api.VV{}), api.VV{}, Held)
	offer(t, "one that may be seen", b, free, api.VV{}, Held)
	offer(t, "one that would free all", b, first, api.VV{}, Held)
	offer(t, "one that waits", b, made(6, 3, api.VV{}), api.VV{}, Held)
	offer(t, "one that is kept", b, made(6, 2, api.VV{}), api.VV{}, Held)
	offer(t, "one that can't be", b, api.Event{}, api.VV{}, Held)
	// The vector's having its first sets the row free; what came then isn't kept, though there is room behind it.
	offer(t, "the row, without what came", b, made(6, 1, api.VV{}), api.VV{1}, 1, row(0, 2, Held)...)
	offer(t, "what is kept still", b, made(6, 1, api.VV{}), api.VV{Held}, 0, made(6, 1, api.VV{}), made(6, 2, api.VV{}))

	b = full(t, 3, Held-1)
	offer(t, "the first one, into the last place", b, made(3, 1, api.VV{}), api.VV{}, 0, row(3, 1, Held)...)
}

// P18.1: the room is that ahead of the call: kept events whose dots the vector has are dropped only then.
func TestHeldOfSeenOnes(t *testing.T) {
	b := full(t, 0, Held)
	e := made(5, 1, api.VV{})
	offer(t, "all kept ones are seen", b, e, api.VV{Held + 1}, 0)
	offer(t, "once more", b, e, api.VV{Held + 1}, 0, e)
}

// P18.1: of one dot what came first is kept, whatever the other one's contents are.
func TestKeptAlready(t *testing.T) {
	b := New()
	two := made(0, 2, api.VV{})
	other := api.Event{Dot: two.Dot, Time: 77, Deps: api.VV{1, 9}, Op: api.Op{Kind: api.Set, Key: "other", Value: "v"}}
	if !event.Right(other) {
		t.Fatal("the other one can't be")
	}
	offer(t, "the first one", b, two, api.VV{}, 1)
	offer(t, "the other one", b, other, api.VV{}, 1)
	// The other one alone would have to wait for replica 1's.
	offer(t, "what it waited for", b, made(0, 1, api.VV{}), api.VV{}, 0, made(0, 1, api.VV{}), two)

	b = New()
	offer(t, "the other one first", b, other, api.VV{}, 1)
	offer(t, "the one that would be free", b, two, api.VV{1}, 1)
	offer(t, "what it waited for", b, other, api.VV{1, 9}, 0, other)
	offer(t, "behind it the dot is free again", b, two, api.VV{1, 9}, 0, two)
}

// P18.1: an event that is kept already is told if it may be seen by now.
func TestKeptAlreadyAndFree(t *testing.T) {
	b := New()
	two := made(0, 2, api.VV{})
	offer(t, "too early", b, two, api.VV{}, 1)
	offer(t, "again, in time", b, two, api.VV{1}, 0, two)
}

// P18.1: kept events whose dots the vector has by now go, untold.
func TestSeenByNow(t *testing.T) {
	for _, upTo := range []int{2, 3, 4, 5, 9, top} {
		b := New()
		l := row(0, 3, 5)
		for i, e := range l {
			offer(t, "waiting", b, e, api.VV{}, i+1)
		}
		elsewhere := made(1, 4, api.VV{})
		offer(t, "another one that waits", b, elsewhere, api.VV{}, 4)
		var want []api.Event
		if upTo < 5 {
			want = l[upTo-2:]
		}
		offer(t, "some are seen", b, api.Event{}, api.VV{upTo}, 1, want...)
		offer(t, "the other one waits on", b, made(1, 3, api.VV{}), put(api.VV{upTo}, 1, 2), 0, made(1, 3, api.VV{}), elsewhere)
	}
	// Seen, though what it has seen isn't: the vector alone tells.
	b, e := New(), made(0, 2, api.VV{0, 9})
	offer(t, "waiting", b, e, api.VV{}, 1)
	offer(t, "seen without its Deps", b, api.Event{}, api.VV{2}, 0)
	// The one that comes may itself be seen already, and free nothing.
	b = New()
	offer(t, "waiting", b, made(0, 3, api.VV{}), api.VV{}, 1)
	offer(t, "seen already", b, made(0, 1, api.VV{}), api.VV{1}, 1)
	offer(t, "seen already, and the one before the next", b, made(0, 1, api.VV{}), api.VV{2}, 0, made(0, 3, api.VV{}))
}

// P18.1: v isn't kept: the next call may come with less, or more, and what was told may be told again.
func TestVectorIsNotKept(t *testing.T) {
	b := New()
	one, two, three := made(0, 1, api.VV{}), made(0, 2, api.VV{}), made(0, 3, api.VV{})
	offer(t, "one", b, one, api.VV{}, 0, one)
	offer(t, "one again, where it wasn't seen", b, one, api.VV{}, 0, one)
	offer(t, "three, though one was told", b, three, api.VV{}, 1)
	offer(t, "two, where nothing was seen", b, two, api.VV{}, 2)
	offer(t, "with more", b, one, api.VV{1}, 0, two, three)
	offer(t, "with more yet", b, three, api.VV{9}, 0)
	offer(t, "with less again", b, three, api.VV{1}, 1)
	offer(t, "with the one between", b, three, api.VV{2}, 0, three)
}

// P18.1: what can't be is dropped, whatever the vector; what is kept may be told all the same.
func TestWrongEvents(t *testing.T) {
	for _, e := range wrongEvents() {
		if event.Right(e) {
			t.Fatalf("it can be: %v", e)
		}
		for _, v := range []api.VV{{}, {1}, all(1), all(top), all(math.MinInt), all(math.MaxInt), all(-1)} {
			offer(t, "alone", New(), e, v, 0)
		}
		b := New()
		offer(t, "one that waits", b, made(0, 2, api.VV{}), api.VV{}, 1)
		offer(t, "a wrong one", b, e, api.VV{}, 1)
		offer(t, "a wrong one, the other one being free", b, e, api.VV{1}, 0, made(0, 2, api.VV{}))
	}
}

// R1, P18.1: vectors that can't be are asked as the words say, number for number.
func TestWrongVectors(t *testing.T) {
	for _, n := range wrongNumbers() {
		for _, r := range []int{0, 7, last} {
			v := put(api.VV{}, r, n)
			b, e := New(), made(r, 1, api.VV{})
			if n > 0 {
				offer(t, "the vector has it", b, e, v, 0)
			} else {
				offer(t, "the vector lacks what is ahead of it", b, e, v, 1)
			}
			q := (r + 1) % api.MaxReplicas
			e = made(q, 1, api.VV{})
			if b = New(); n > 0 {
				offer(t, "much elsewhere", b, e, v, 0, e)
				offer(t, "much elsewhere, and needed", b, made(q, 1, put(api.VV{}, r, top)), v, 0, made(q, 1, put(api.VV{}, r, top)))
			} else {
				// A number of 0 in Deps is above one that is below 0.
				offer(t, "less than nothing elsewhere", b, e, v, 1)
				offer(t, "nothing elsewhere", b, e, api.VV{}, 0, e)
			}
		}
		b := full(t, 0, Held)
		if n > 0 {
			offer(t, "all of them", b, made(0, 1, api.VV{}), all(n), 0)
		} else {
			offer(t, "none of them", b, made(0, 1, api.VV{}), all(n), Held)
		}
	}
	// The greatest dot is never one above a vector's number that can't be.
	offer(t, "the greatest dot", New(), made(0, top, api.VV{}), api.VV{top + 1}, 0)
	offer(t, "the greatest dot", New(), made(0, top, api.VV{}), api.VV{math.MinInt}, 1)
}

// P18.2: Len by one more and one less at a time.
func TestLen(t *testing.T) {
	b := New()
	for n := range Held {
		if b.Len() != n {
			t.Fatalf("Len %d, want %d", b.Len(), n)
		}
		offer(t, "two further on each", b, made(1, 3*n+2, api.VV{}), api.VV{}, n+1)
	}
	for n := range Held {
		offer(t, "freed by the vector", b, api.Event{}, put(api.VV{}, 1, 3*n+1), Held-n-1, made(1, 3*n+2, api.VV{}))
	}
}

// P18.1, P18.2: as the plain buffer does, whatever comes with whatever vector.
func TestAsThePlainOne(t *testing.T) {
	for seed := range dice(120) {
		s := seed
		b, p := New(), plain{}
		l := append(world(&s, 2+s.roll(4), pick(&s, 60, 300)), wrongEvents()[:3]...)
		calm := s.roll(2) == 0 // with small vectors alone, so that the buffer grows full
		for range 200 {
			e := l[s.roll(len(l))]
			if s.roll(6) == 0 {
				e.Time++ // other contents
			}
			var v api.VV
			for r := range v {
				v[r] = pick(&s, 0, 0, s.roll(4), s.roll(20), 60)
				if calm {
					v[r] = pick(&s, 0, 1, 2)
				} else if s.roll(40) == 0 {
					v[r] = wrongNumbers()[s.roll(9)]
				}
			}
			want := p.offer(e, v)
			offer(t, "as the plain one", b, e, v, len(p.kept), want...)
		}
	}
}

// isBehindAll tells whether each event stands behind all that it has seen.
func isBehindAll(l []api.Event) bool {
	var v api.VV
	for _, e := range l {
		for r, n := range e.Deps {
			if n > v[r] {
				return false
			}
		}
		if v[e.Dot.R]++; v[e.Dot.R] != e.Dot.N {
			return false
		}
	}
	return true
}

// P18.3: in whatever order, some twice: each once, behind all that it has seen.
func TestEachOnce(t *testing.T) {
	for seed := range dice(100) {
		s := seed
		set := world(&s, 1+s.roll(6), Held)
		back := slices.Clone(set)
		slices.Reverse(back)
		orders := [][]api.Event{set, back, mixed(&s, set)}
		twice := mixed(&s, append(slices.Clone(set), set[:s.roll(len(set))]...))
		orders = append(orders, twice, mixed(&s, append(slices.Clone(set), set...)))
		for i, order := range orders {
			b := New()
			var v api.VV
			var told []api.Event
			for _, e := range order {
				now := b.Offer(e, v)
				for _, e := range now {
					v[e.Dot.R]++
				}
				told = append(told, now...)
				if i == 0 && !slices.Equal(now, []api.Event{e}) {
					t.Fatalf("seed %d: in order, but told %v of %v", seed, now, e)
				}
			}
			if !isBehindAll(told) || len(told) != len(set) || b.Len() != 0 {
				t.Fatalf("seed %d, order %d: told %v, kept %d", seed, i, told, b.Len())
			}
			for _, e := range set {
				if !slices.Contains(told, e) {
					t.Fatalf("seed %d, order %d: never told %v", seed, i, e)
				}
			}
		}
	}
}

// P18.3: more events than Held, of which never more are kept.
func TestManyEvents(t *testing.T) {
	s := dice(5)
	set := world(&s, api.MaxReplicas, 2000)
	b := New()
	var v api.VV
	var told []api.Event
	// Mixed by pieces of Held, each set of which is whole behind its end.
	for piece := range slices.Chunk(set, Held) {
		for _, e := range mixed(&s, append(slices.Clone(piece), piece...)) {
			now := b.Offer(e, v)
			for _, e := range now {
				v[e.Dot.R]++
			}
			told = append(told, now...)
		}
		if b.Len() != 0 {
			t.Fatalf("kept behind a piece: %d", b.Len())
		}
	}
	if !isBehindAll(told) || len(told) != len(set) {
		t.Errorf("told %d of %d", len(told), len(set))
	}
}

// P18.4: of a nil Buffer nothing is told, and nothing kept.
func TestNil(t *testing.T) {
	var b *Buffer
	for _, e := range append(wrongEvents(), made(0, 1, api.VV{}), made(0, 2, api.VV{}), made(last, top, all(top))) {
		for _, v := range []api.VV{{}, {1}, all(top), all(math.MinInt), all(math.MaxInt)} {
			offer(t, "nil", b, e, v, 0)
		}
	}
}

// R2: what is dropped changes nothing that a later call could tell.
func TestDroppedChangesNothing(t *testing.T) {
	for seed := range dice(60) {
		s := seed
		a, b := New(), New()
		set := world(&s, 4, 40)
		var v api.VV
		for _, e := range mixed(&s, set) {
			got, want := a.Offer(e, v), b.Offer(e, v)
			if !slices.Equal(got, want) || a.Len() != b.Len() {
				t.Fatalf("seed %d: %v, %v", seed, got, want)
			}
			for _, e := range got {
				v[e.Dot.R]++
			}
			// a alone is offered what is to be dropped.
			again := e
			again.Op = api.Op{Kind: api.Set, Key: "never", Value: "told"}
			junk := wrongEvents()
			for _, e := range []api.Event{e, again, junk[s.roll(len(junk))]} {
				offer(t, "dropped", a, e, v, b.Len())
			}
		}
	}
}

// R3: what is told is a list of its own; what goes in stays as it is.
func TestListOfItsOwn(t *testing.T) {
	b := New()
	l := row(0, 1, 3)
	offer(t, "3", b, l[2], api.VV{}, 1)
	first := b.Offer(l[0], api.VV{})
	second := b.Offer(l[0], api.VV{})
	kept := slices.Clone(first)
	for i := range second {
		second[i] = api.Event{}
	}
	second = append(second, l...)
	if !slices.Equal(first, kept) {
		t.Errorf("two answers share memory: %v", first)
	}
	told := b.Offer(l[1], api.VV{1})
	if !slices.Equal(told, l[1:]) {
		t.Fatalf("told %v", told)
	}
	more := b.Offer(l[1], api.VV{1})
	told = append(told[:0], api.Event{}, api.Event{}, api.Event{})
	if !slices.Equal(more, l[1:2]) {
		t.Errorf("an answer that was overwritten is seen in the next one: %v", more)
	}
}

// R6: the answers hang on no map's order: the same steps, the same answers, each time.
func TestSameEachTime(t *testing.T) {
	play := func() [][]api.Event {
		s, b := dice(9), New()
		var all [][]api.Event
		var v api.VV
		for _, e := range mixed(&s, world(&s, api.MaxReplicas, Held)) {
			told := b.Offer(e, v)
			for _, e := range told {
				v[e.Dot.R]++
			}
			all = append(all, told)
		}
		return all
	}
	first := play()
	for range 50 {
		if again := play(); !reflect.DeepEqual(again, first) {
			t.Fatalf("\n%v\n%v", again, first)
		}
	}
}

// Ways: kept events lie in a bag; beside them nothing is kept.
func TestWays(t *testing.T) {
	b := reflect.TypeFor[Buffer]()
	if b.NumField() != 1 || !strings.Contains(b.Field(0).Type.String(), reflect.TypeFor[bag.Bag[api.Event]]().String()) {
		t.Errorf("a buffer has more, or other things, than its bag: %v", b)
	}
}
