package space

import (
	"fmt"
	"math"
	"slices"
	"testing"

	"polyphony/api"
)

// P17.7: of a nil space Apply is ErrArg, whatever it is, Ready false, all else none, or 0; its text is the zero one's.
func TestNil(t *testing.T) {
	var s *Space
	for _, e := range []api.Event{made(0, 1, 1, api.VV{}, set("k", "v")), made(0, 2, 1, api.VV{}, set("k", "v")), {}} {
		if s.Ready(e) || s.Apply(e) != api.ErrArg {
			t.Errorf("Apply(%v): %d, Ready %t", e, s.Apply(e), s.Ready(e))
		}
	}
	if s.VV() != (api.VV{}) || s.Time() != 0 || len(s.Keys()) != 0 || s.Dead() != 0 || s.Collect(api.VV{top, top}) != 0 {
		t.Errorf("%v, %d, %q, %d", s.VV(), s.Time(), s.Keys(), s.Dead())
	}
	for _, key := range []string{"", "k"} {
		v, ok := s.Text(key)
		if s.Type(key) != 0 || v != "" || ok || s.Sum(key) != 0 {
			t.Errorf("Type %d, Text %q, %t, Sum %d", s.Type(key), v, ok, s.Sum(key))
		}
		if len(s.Members(key))+len(s.Fields(key))+len(s.Scores(key))+len(s.Items(key)) != 0 {
			t.Errorf("something is told of %q", key)
		}
		for _, n := range []int{0, 1, topNum, topNum + 1, math.MinInt, math.MaxInt} {
			if s.Check(key, n) != 0 {
				t.Errorf("Check(%q, %d): %d", key, n, s.Check(key, n))
			}
		}
	}
	if zero := (&Space{}).Encode(); s.Encode() != zero || zero != zeros(19) {
		t.Errorf("its text is %q", s.Encode())
	}
}

// P17.1, P17.2: of the zero space Check is layer 12's, of nothing.
func TestZero(t *testing.T) {
	var s Space
	for n, want := range map[int]api.Errno{0: api.OK, topNum: api.OK, -topNum: api.OK, topNum + 1: api.ErrOver, -topNum - 1: api.ErrOver, math.MinInt: api.ErrOver, math.MaxInt: api.ErrOver} {
		if s.Check("k", n) != want || New().Check("", n) != want {
			t.Errorf("Check of %d: %d", n, s.Check("k", n))
		}
	}
	b := both{s: &s}
	b.is(t, "the zero one")
	b.see(t, inARow(0, ofEachType()...)...)
	b.is(t, "the zero one, having seen much")
}

// full is a space with a key of each type, and dead ones.
func full(t *testing.T) *both {
	t.Helper()
	b := begun()
	b.see(t, inARow(7, ofEachType()...)...)
	b.see(t, made(1, 1, 99, b.p.seen, push("list", "z", dot(7, 13))), made(1, 2, 99, b.p.seen, lRem("list", dot(7, 13))))
	return b
}

// R3: what comes out is new: who changes it changes neither what is kept nor another answer.
func TestAnswersAreNew(t *testing.T) {
	b := full(t)
	keys, other := b.s.Keys(), b.s.Keys()
	members, fields, scores, items := b.s.Members("group"), b.s.Fields("hash"), b.s.Scores("score"), b.s.Items("list")
	held := fmt.Sprint(b.s.Keys(), b.s.Members("group"), b.s.Fields("hash"), b.s.Scores("score"), b.s.Items("list"))
	for i := range keys {
		keys[i] = "x"
	}
	for i := range members {
		members[i] = "x"
	}
	for i := range fields {
		fields[i].Value = "x"
	}
	for i := range scores {
		scores[i].Score = 99
	}
	for i := range items {
		items[i] = api.Event{}
	}
	_ = append(keys[:1], "y", "y", "y")
	_ = append(items[:1], api.Event{}, api.Event{}, api.Event{})
	if got := fmt.Sprint(other, b.s.Members("group"), b.s.Fields("hash"), b.s.Scores("score"), b.s.Items("list")); got != held {
		t.Errorf("%s became %s", held, got)
	}
	b.is(t, "behind changes")
	v := b.s.VV()
	v[0] = 5
	b.is(t, "behind a change of the vector")
}

// R3: two spaces that one text tells, and the one that told it, have nothing in common.
func TestSpacesShareNothing(t *testing.T) {
	b := full(t)
	text := b.s.Encode()
	one, two := decodes(t, "one", text, api.OK), decodes(t, "two", text, api.OK)
	for _, key := range one.Keys() {
		v := one.VV()
		if one.Apply(made(0, v[0]+1, 200, v, del(key))) != api.OK {
			t.Fatal("Apply")
		}
	}
	one.Collect(one.VV())
	if len(one.Keys()) != 0 || one.Dead() != 0 || two.Encode() != text || b.s.Encode() != text {
		t.Errorf("%q, dead %d", one.Keys(), one.Dead())
	}
	b.is(t, "another one changed")
}

// R2, R3: what only reads changes nothing.
func TestReadingChangesNothing(t *testing.T) {
	b := full(t)
	was := b.s.Encode()
	toldBy(b.s, keysOf(b.p.all))
	b.s.Ready(made(0, 1, 1, api.VV{}, del("list")))
	b.s.Ready(api.Event{})
	decodes(t, "its text", b.s.Encode(), api.OK)
	if b.s.Encode() != was {
		t.Errorf("the text became %q", b.s.Encode())
	}
}

// R6: no answer hangs on a map's order: of many keys the same is told, and collected, each time.
func TestTheSameEachTime(t *testing.T) {
	build := func() *Space {
		s := New()
		for i := range 200 {
			key := fmt.Sprint(i * 7919 % 64)
			v := s.VV()
			op := push(key, fmt.Sprint(i), api.Dot{})
			if i%3 == 2 {
				op = lRem(fmt.Sprint((i-1)*7919%64), dot((i-1)%5, v[(i-1)%5]))
			}
			if e := s.Apply(made(i%5, v[i%5]+1, i, v, op)); e != api.OK {
				t.Fatalf("Apply: %d", e)
			}
		}
		return s
	}
	first := build()
	if first.Dead() < 50 || len(first.Keys()) < 50 {
		t.Errorf("%d dead, %d keys: this tests too little", first.Dead(), len(first.Keys()))
	}
	for range 20 {
		s := build()
		if s.Encode() != first.Encode() || s.Encode() != s.Encode() || !slices.Equal(s.Keys(), first.Keys()) || s.Dead() != first.Dead() {
			t.Fatal("another text, or other keys")
		}
		u := decodes(t, "many keys", s.Encode(), api.OK)
		stable := s.VV()
		stable[2] /= 2
		if n := s.Collect(stable); n != u.Collect(stable) || s.Encode() != u.Encode() || n < 10 {
			t.Fatalf("%d collected", n)
		}
	}
}

// What is kept is no more than the document's promises need: of keys that are gone nothing stays.
func TestNothingStaysOfWhatIsGone(t *testing.T) {
	s := New()
	for i := range 1000 {
		v := s.VV()
		key := fmt.Sprint(i)
		s.Apply(made(0, v[0]+1, i, v, set(key, "v")))
		s.Apply(made(0, v[0]+2, i, v, root(key, "a")))
		s.Apply(made(0, v[0]+3, i, v, del(key)))
		s.Apply(made(0, v[0]+4, i, v, del("never "+key)))
		if i%10 == 9 {
			s.Collect(s.VV())
		}
	}
	if len(s.keys) != 0 {
		t.Errorf("%d keys are kept", len(s.keys))
	}
}
