package live

import (
	"math"
	"slices"
	"testing"

	"polyphony/api"
)

// last and top are the last replica and the greatest number of a dot, as the document says them.
const (
	last = 15
	top  = 1 << 20
)

// at is a dot.
func at(r, n int) api.Dot { return api.Dot{R: r, N: n} }

// kinds is all kinds of operations, and adding those that add something.
func kinds() []int { return []int{1, 2, 3, 4, 5, 6, 7, 8, 9, 10, 11} }

func adding() []int { return []int{1, 2, 3, 5, 7, 9} }

// noKinds is numbers that are no kind.
func noKinds() []int {
	return []int{0, 12, 13, -1, -3, -11, 1 << 8, 1<<8 + 3, 1 << 32, 1<<32 + 11, math.MinInt, math.MinInt + 9, math.MaxInt}
}

// endedBy is the kinds of what events of a kind end, by the document's list; none, if it is no kind.
func endedBy(kind int) []int {
	switch kind {
	case api.Del:
		return adding()
	case api.Set:
		return []int{api.Set}
	case api.SAdd, api.SRem:
		return []int{api.SAdd}
	case api.HSet, api.HDel:
		return []int{api.HSet}
	case api.ZAdd, api.ZRem:
		return []int{api.ZAdd}
	case api.LRem:
		return []int{api.Push}
	}
	return nil
}

// byField tells whether an event of a kind ends only what has its own Field.
func byField(kind int) bool { return kind >= api.SAdd && kind <= api.ZRem }

// has is whether a vector has a dot by layer 3's words.
func has(v api.VV, d api.Dot) bool {
	return d.R >= 0 && d.R <= last && d.N >= 1 && d.N <= top && d.N <= v[d.R]
}

// ends is whether b ends a by the document's words.
func ends(b, a api.Event) bool {
	return has(b.Deps, a.Dot) && b.Op.Key == a.Op.Key && slices.Contains(endedBy(b.Op.Kind), a.Op.Kind) &&
		(!byField(b.Op.Kind) || b.Op.Field == a.Op.Field) && (b.Op.Kind != api.LRem || b.Op.Ref == a.Dot)
}

// holds holds one Ends against what it shall tell.
func holds(t *testing.T, what string, b, a api.Event, want bool) {
	t.Helper()
	if Ends(b, a) != want {
		t.Errorf("%s: Ends of %v and %v is %t", what, b, a, !want)
	}
}

// pair is two events: the second one of replica 2, and one of replica 5 that has seen it.
func pair(kb, ka int) (b, a api.Event) {
	a = api.Event{Dot: at(2, 2), Time: 7, Deps: api.VV{2: 1}, Op: api.Op{Kind: ka, Key: "k", Field: "f"}}
	b = api.Event{Dot: at(5, 1), Time: 9, Deps: api.VV{2: 2}, Op: api.Op{Kind: kb, Key: "k", Field: "f", Ref: a.Dot}}
	return b, a
}

// P10.1: each kind against each other one: of the same key, field and dot, and of others, seen and not.
func TestEndsOfEachKind(t *testing.T) {
	for _, kb := range kinds() {
		for _, ka := range kinds() {
			b, a := pair(kb, ka)
			does := slices.Contains(endedBy(kb), ka)
			holds(t, "all alike", b, a, does)

			other := b
			other.Deps[2] = 1
			holds(t, "not seen", other, a, false)
			other.Deps[2] = 3
			holds(t, "one more seen", other, a, does)
			other.Deps = api.VV{1: 9, 3: 9, 5: 9}
			holds(t, "others' seen alone", other, a, false)

			for _, key := range []string{"", "j", "K", "k ", "kk", "k\x00", "f"} {
				other = b
				other.Op.Key = key
				holds(t, "another key", other, a, false)
			}
			for _, field := range []string{"", "g", "F", "f ", "ff", "f\x00", "k"} {
				other = b
				other.Op.Field = field
				holds(t, "another field", other, a, does && !byField(kb))
			}
			for _, ref := range []api.Dot{{}, at(2, 1), at(2, 3), at(1, 2), at(3, 2), at(5, 1), at(2, -2), at(-2, 2)} {
				other = b
				other.Op.Ref = ref
				holds(t, "another Ref", other, a, does && kb != api.LRem)
			}
		}
	}
}

// P10.1: pairs one by one, as the document names them, apart from all that the tests work out.
func TestEndsAsTold(t *testing.T) {
	for _, c := range []struct {
		b, a int
		want bool
	}{
		{api.Del, api.Set, true}, {api.Del, api.Incr, true}, {api.Del, api.SAdd, true},
		{api.Del, api.HSet, true}, {api.Del, api.ZAdd, true}, {api.Del, api.Push, true},
		{api.Del, api.Del, false}, {api.Del, api.SRem, false}, {api.Del, api.LRem, false},
		{api.SRem, api.SAdd, true}, {api.SAdd, api.SAdd, true}, {api.SAdd, api.SRem, false},
		{api.HDel, api.HSet, true}, {api.HSet, api.HSet, true}, {api.HSet, api.HDel, false},
		{api.ZRem, api.ZAdd, true}, {api.ZAdd, api.ZAdd, true}, {api.ZAdd, api.ZRem, false},
		{api.Set, api.Set, true}, {api.Set, api.HSet, false}, {api.Set, api.Incr, false},
		{api.LRem, api.Push, true}, {api.Push, api.Push, false}, {api.Push, api.LRem, false},
		{api.Incr, api.Incr, false}, {api.Incr, api.Set, false},
		{api.SRem, api.HSet, false}, {api.HDel, api.SAdd, false}, {api.ZRem, api.SAdd, false},
	} {
		b, a := pair(c.b, c.a)
		holds(t, "as told", b, a, c.want)
	}
}

// P10.1: b ends what it covers alone: a's dot at each edge, and dots and vectors that can't be.
func TestEndsWhatItCovers(t *testing.T) {
	seen := api.VV{1, top, math.MaxInt, -1, math.MinInt, 0, top + 1}
	seen[last] = 7
	for _, c := range []struct {
		r, n int
		want bool
	}{
		{0, 1, true}, {0, 2, false}, {1, top, true}, {1, top + 1, false}, {2, 1, true}, {2, top, true},
		{2, top + 1, false}, {2, math.MaxInt, false}, {3, 1, false}, {3, 0, false}, {3, -1, false}, {3, -2, false},
		{4, 1, false}, {4, math.MinInt, false}, {5, 1, false}, {5, 0, false}, {6, top, true}, {6, top + 1, false},
		{last, 7, true}, {last, 8, false}, {0, 0, false}, {0, -1, false}, {1, math.MinInt, false},
		{-1, 1, false}, {16, 1, false}, {17, 0, false}, {math.MinInt, 1, false}, {math.MaxInt, 1, false}, {-1, -1, false},
	} {
		for _, kb := range kinds() {
			for _, ka := range kinds() {
				b, a := pair(kb, ka)
				a.Dot, b.Deps, b.Op.Ref = at(c.r, c.n), seen, at(c.r, c.n)
				holds(t, "an edge", b, a, c.want && slices.Contains(endedBy(kb), ka))
			}
		}
	}
}

// P10.1: what the words don't name plays no part: times, values, numbers, b's dot, what a had seen, a's Ref.
func TestEndsLooksAtNothingElse(t *testing.T) {
	for _, kb := range kinds() {
		for _, ka := range kinds() {
			b, a := pair(kb, ka)
			does := slices.Contains(endedBy(kb), ka)
			a.Time, b.Time = math.MaxInt, math.MinInt
			a.Deps = api.VV{2: top, 5: top}
			a.Op.Value, b.Op.Value = "a", "b"
			a.Op.Num, b.Op.Num = 3, -4
			a.Op.Ref = at(9, 9)
			holds(t, "all else", b, a, does)
			for _, d := range []api.Dot{{}, at(2, 1), at(2, 3), at(-1, 1), at(16, 1), at(0, math.MinInt)} {
				b.Dot = d
				holds(t, "another dot of b", b, a, does)
			}
			b.Deps[2] = 1
			holds(t, "all else, not seen", b, a, false)
		}
	}
}

// P10.1: a Field that an operation doesn't use, as those that can't be may have it, plays no part.
func TestEndsByFieldsThatArentUsed(t *testing.T) {
	for _, kinds := range [][2]int{{api.Set, api.Set}, {api.LRem, api.Push}, {api.Del, api.Set}, {api.Del, api.Incr}, {api.Del, api.Push}} {
		b, a := pair(kinds[0], kinds[1])
		a.Op.Field = "g"
		holds(t, "unlike fields", b, a, true)
		a.Op.Field = ""
		holds(t, "one field", b, a, true)
	}
}

// P10.1, R1: what is of no kind ends nothing, and is ended by nothing.
func TestEndsOfNoKind(t *testing.T) {
	for _, no := range noKinds() {
		for _, kind := range append(noKinds(), kinds()...) {
			b, a := pair(no, kind)
			holds(t, "b is none", b, a, false)
			b, a = pair(kind, no)
			holds(t, "a is none", b, a, false)
		}
	}
	holds(t, "zero events", api.Event{}, api.Event{}, false)
}

// P10.1: the empty key and the empty field are as others.
func TestEndsOfEmptyTexts(t *testing.T) {
	for _, kb := range kinds() {
		for _, ka := range kinds() {
			b, a := pair(kb, ka)
			a.Op.Key, b.Op.Key, a.Op.Field, b.Op.Field = "", "", "", ""
			holds(t, "empty", b, a, slices.Contains(endedBy(kb), ka))
			a.Op.Key = "k"
			holds(t, "the one key empty", b, a, false)
		}
	}
}

// P10.1: a Push is ended by the LRem of its own dot, not by that of another Push, nor of what it hangs on.
func TestEndsByRef(t *testing.T) {
	push := func(d, ref api.Dot) api.Event {
		return api.Event{Dot: d, Op: api.Op{Kind: api.Push, Key: "k", Value: "v", Ref: ref}}
	}
	lrem := func(ref api.Dot) api.Event {
		return api.Event{Dot: at(1, 1), Deps: api.VV{3}, Op: api.Op{Kind: api.LRem, Key: "k", Ref: ref}}
	}
	one, two := push(at(0, 1), api.Dot{}), push(at(0, 2), at(0, 1))
	holds(t, "the first", lrem(at(0, 1)), one, true)
	holds(t, "what hangs on the first", lrem(at(0, 1)), two, false)
	holds(t, "the second", lrem(at(0, 2)), two, true)
	holds(t, "what the second hangs on", lrem(at(0, 2)), one, false)
	holds(t, "another replica's", lrem(at(1, 1)), one, false)
	holds(t, "no dot", lrem(api.Dot{}), one, false)
	holds(t, "no dot either way", lrem(api.Dot{}), push(api.Dot{}, api.Dot{}), false)
	holds(t, "not seen", lrem(at(0, 4)), push(at(0, 4), api.Dot{}), false)
	set := one
	set.Op.Kind = api.Set
	holds(t, "no Push", lrem(at(0, 1)), set, false)
}

// R6: all this by the document's words, of many pairs of events, some of which can't be.
func TestEndsOfMany(t *testing.T) {
	s := dice(1)
	times := 0
	for range 200000 {
		b, a := s.junk(), s.junk()
		want := ends(b, a)
		holds(t, "some", b, a, want)
		if want {
			times++
		}
	}
	if times < 2000 {
		t.Errorf("only %d ended: this tests too little", times)
	}
}
