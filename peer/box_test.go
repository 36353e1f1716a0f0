package peer

import (
	"errors"
	"math"
	"reflect"
	"sync"
	"testing"

	"polyphony/api"
)

// The document's example: a box with room for one.
func TestBoxExample(t *testing.T) {
	b := NewBox[string](1)
	puts(t, "a", b, "a", true)
	puts(t, "b", b, "b", false)
	takes(t, "a", b, "a")
	isEmpty(t, "none", b)
}

// P20.4: a box has just the room that it was asked for, held from 0 to 65536; what finds none is not put.
func TestRoom(t *testing.T) {
	held := []struct{ asked, has int }{
		{math.MinInt, 0}, {math.MinInt + 1, 0}, {-1 << 32, 0}, {-2, 0}, {-1, 0}, {0, 0}, {1, 1}, {2, 2}, {3, 3}, {64, 64}, {1000, 1000},
		{room - 1, room - 1}, {room, room}, {room + 1, room}, {1 << 20, room}, {1 << 32, room}, {1<<32 + 1, room}, {math.MaxInt - 1, room}, {math.MaxInt, room},
	}
	for _, c := range held {
		b := NewBox[int](c.asked)
		isEmpty(t, "new", b)
		for i := range c.has {
			puts(t, "room", b, i, true)
			hasSo(t, "room", b, i+1)
		}
		for range 3 {
			puts(t, "no room", b, -1, false)
			hasSo(t, "no room", b, c.has)
		}
		for i := range c.has {
			takes(t, "in order", b, i)
			hasSo(t, "in order", b, c.has-i-1)
		}
		isEmpty(t, "all taken", b)
	}
}

// P20.4: a box that is full has room again for each thing that is taken.
func TestRoomAgain(t *testing.T) {
	for _, room := range []int{1, 2, 7} {
		b := NewBox[int](room)
		for i := range room {
			puts(t, "filling", b, i, true)
		}
		for i := range 5 * room {
			puts(t, "full", b, -1, false)
			takes(t, "the first", b, i)
			puts(t, "room again", b, i+room, true)
			hasSo(t, "full again", b, room)
		}
	}
}

// P20.4: as a list does, whatever is put and taken.
func TestAsAList(t *testing.T) {
	for seed := range dice(100) {
		s := seed
		room := s.roll(9)
		b := NewBox[int](room)
		var l []int
		for i := range 300 {
			if s.roll(2) == 0 {
				puts(t, "as a list", b, i, len(l) < room)
				if len(l) < room {
					l = append(l, i)
				}
			} else if len(l) == 0 {
				isEmpty(t, "as a list", b)
			} else {
				takes(t, "as a list", b, l[0])
				l = l[1:]
			}
			hasSo(t, "as a list", b, len(l))
		}
	}
}

// through puts things of whatever type, each twice, and takes them.
func through[T comparable](t *testing.T, things ...T) {
	t.Helper()
	b := NewBox[T](2 * len(things))
	for _, x := range things {
		puts(t, "a thing", b, x, true)
		puts(t, "it again", b, x, true)
	}
	var none T
	puts(t, "full", b, none, false)
	for _, x := range things {
		takes(t, "a thing", b, x)
		takes(t, "it again", b, x)
	}
	isEmpty(t, "all taken", b)
}

// P20.4: what a box has plays no part: things of any type, zero ones, nil and equal ones among them.
func TestWhatItHas(t *testing.T) {
	through(t, 0, 1, math.MinInt)
	through(t, "", "a", "", "b")
	through(t, false, true)
	through(t, struct{}{}, struct{}{})
	through(t, at(0, 1, 1), api.Event{}, at(1, 1, 2))
	through(t, api.OK, api.ErrArg)
	through(t, nil, errors.New("x"), nil)
	through(t, any(nil), any(1), any("a"), any(api.Dot{R: 1, N: 2}))
	through(t, nil, new(int), nil, new(int))
	through(t, nil, NewBox[int](1))
	through(t, nil, make(chan int))
	through(t, [0]int{}, [0]int{})
	through(t, [3]string{"a", "", "c"}, [3]string{})

	lists := NewBox[[]int](3)
	puts(t, "nil", lists, nil, true)
	puts(t, "empty", lists, []int{}, true)
	puts(t, "some", lists, []int{1, 2}, true)
	for want := range 3 {
		if l, ok := lists.Take(); !ok || len(l) != []int{0, 0, 2}[want] {
			t.Errorf("a list: %v, %t", l, ok)
		}
	}
	if l, ok := lists.Take(); l != nil || ok {
		t.Errorf("of none: %v, %t", l, ok)
	}
	calls := NewBox[func() int](1)
	puts(t, "a function", calls, func() int { return 7 }, true)
	if f, ok := calls.Take(); !ok || f() != 7 {
		t.Error("a function")
	}
	floats := NewBox[float64](1)
	puts(t, "no number", floats, math.NaN(), true)
	if x, ok := floats.Take(); !ok || !math.IsNaN(x) {
		t.Errorf("no number: %v, %t", x, ok)
	}
	// A thing that panics if it is held against another one.
	odd := NewBox[any](1)
	puts(t, "what can't be compared", odd, any([]int{1}), true)
	if x, ok := odd.Take(); !ok || !reflect.DeepEqual(x, []int{1}) {
		t.Errorf("what can't be compared: %v, %t", x, ok)
	}
}

// P20.4, R1: things greater than a channel's elements may be, in a box with the greatest room.
func TestGreatThings(t *testing.T) {
	type great [1 << 17]byte
	b := NewBox[great](math.MaxInt)
	var x great
	x[0], x[len(x)-1] = 1, 2
	if !b.Put(x) || !b.Put(great{}) || b.Len() != 2 {
		t.Fatal("Put")
	}
	if y, ok := b.Take(); y != x || !ok {
		t.Error("the first one")
	}
	if y, ok := b.Take(); y != (great{}) || !ok {
		t.Error("the second one")
	}
}

// P20.5: of a nil Box, and the zero one, Put and Take are false, Len 0.
func TestNilAndZeroBox(t *testing.T) {
	var zero Box[string]
	for _, b := range []*Box[string]{nil, &zero, new(Box[string])} {
		for range 3 {
			isEmpty(t, "none", b)
			puts(t, "none", b, "a", false)
			puts(t, "none", b, "", false)
			isEmpty(t, "still none", b)
		}
	}
}

// R3: what is put stays as it was, and what comes out is nobody else's: neither is seen in the other.
func TestThingsOfTheirOwn(t *testing.T) {
	b := NewBox[[2]int](3)
	x := [2]int{1, 2}
	puts(t, "x", b, x, true)
	x[0] = 9
	puts(t, "x again", b, x, true)
	first, _ := b.Take()
	first[1] = 7
	takes(t, "the second one", b, [2]int{9, 2})
	if first != [2]int{1, 7} || x != [2]int{9, 2} {
		t.Errorf("%v, %v", first, x)
	}
}

// R6: a box hangs on no other one.
func TestBoxesApart(t *testing.T) {
	a, b := NewBox[int](1), NewBox[int](1)
	puts(t, "a", a, 1, true)
	isEmpty(t, "b", b)
	puts(t, "b", b, 2, true)
	takes(t, "a", a, 1)
	takes(t, "b", b, 2)
}

// P20.4: no call waits, and nothing is lost or doubled, where many put and take at the same time.
func TestManyAtOnce(t *testing.T) {
	const workers, each = 8, 500
	b := NewBox[int](5)
	none := NewBox[int](0)
	var all sync.WaitGroup
	took, put := make([][]int, workers), make([]int, workers)
	for w := range workers {
		all.Go(func() {
			for i := range each {
				if b.Put(w*each + i) {
					put[w]++
				}
				if x, ok := b.Take(); ok {
					took[w] = append(took[w], x)
				}
				if n := b.Len(); n < 0 || n > 5 {
					t.Errorf("Len %d", n)
				}
				// Without room there is never one that waits to take.
				_, ok := none.Take()
				if ok || none.Put(i) {
					t.Error("a box without room")
				}
			}
		})
	}
	all.Wait()
	seen, count := map[int]int{}, 0
	for w := range workers {
		count += put[w]
		for _, x := range took[w] {
			seen[x]++
		}
	}
	for x, ok := b.Take(); ok; x, ok = b.Take() {
		seen[x]++
	}
	if len(seen) != count {
		t.Errorf("%d put, %d taken", count, len(seen))
	}
	for x, n := range seen {
		if n != 1 {
			t.Errorf("%d was taken %d times", x, n)
		}
	}
}

// Ways: a box is a channel; beside it nothing is kept.
func TestBoxWays(t *testing.T) {
	if b := reflect.TypeFor[Box[int]](); b.NumField() != 1 || b.Field(0).Type.Kind() != reflect.Chan {
		t.Errorf("a box has more, or other things, than its channel: %v", b)
	}
}
