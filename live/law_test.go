package live

import (
	"slices"
	"testing"

	"polyphony/api"
	"polyphony/event"
)

// replicas is how many there are in the histories below.
const replicas = 3

// history is what replicas make that now and then see what others have seen: events that can be, each behind
// all that it has seen.
func (s *dice) history(steps int) []api.Event {
	var l []api.Event
	var seen [replicas]api.VV
	for range steps {
		r, other := s.roll(replicas), s.roll(replicas)
		if s.roll(3) == 0 {
			for i, n := range seen[other] {
				seen[r][i] = max(seen[r][i], n)
			}
			continue
		}
		e := api.Event{Dot: at(r, seen[r][r]+1), Time: s.roll(6), Deps: seen[r], Op: s.doing(l, seen[r])}
		l = append(l, e)
		seen[r][r]++
	}
	return l
}

// doing is an operation that can be, by one who has seen a vector of a list.
func (s *dice) doing(l []api.Event, seen api.VV) api.Op {
	o := api.Op{Kind: 1 + s.roll(11), Key: []string{"k", "k", "k", "j"}[s.roll(4)]}
	if byField(o.Kind) {
		o.Field = []string{"f", "g", ""}[s.roll(3)]
	}
	if o.Kind == api.Set || o.Kind == api.HSet || o.Kind == api.Push {
		o.Value = []string{"v", "w"}[s.roll(2)]
	}
	var pushes []api.Dot
	for _, e := range l {
		if e.Op.Kind == api.Push && e.Op.Key == o.Key && has(seen, e.Dot) {
			pushes = append(pushes, e.Dot)
		}
	}
	if o.Kind == api.LRem && len(pushes) == 0 {
		o.Kind = api.Push
	}
	if (o.Kind == api.LRem || o.Kind == api.Push) && len(pushes) > 0 {
		o.Ref = pushes[s.roll(len(pushes))]
	}
	return o
}

// The histories are ones that can be, and in them much is ended and much is live.
func TestHistories(t *testing.T) {
	live, all := 0, 0
	for seed := range 300 {
		s := dice(seed)
		l := s.history(20)
		for i, e := range l {
			if !event.Right(e) {
				t.Fatalf("%v can't be", e)
			}
			if slices.ContainsFunc(l[i:], func(b api.Event) bool { return event.Covers(e, b) }) {
				t.Fatalf("%v has seen one behind it", e)
			}
		}
		asTold(t, "a history", l)
		live, all = live+len(All(l)), all+len(l)
	}
	if live*10 < all || live*2 > all {
		t.Errorf("%d of %d are live: this tests too little", live, all)
	}
}

// alike holds that two lists tell the same.
func alike(t *testing.T, what string, l, m []api.Event) {
	t.Helper()
	tells(t, what, m, All(l)...)
	for _, key := range []string{"k", "j", ""} {
		keyed(t, what, m, key, Type(l, key), Of(l, key)...)
	}
	hasKeys(t, what, m, Keys(l)...)
}

// P10.2: each order of few events tells the same.
func TestEachOrder(t *testing.T) {
	for seed := range 60 {
		s := dice(seed)
		l := s.history(9)
		l = l[:min(len(l), 6)]
		orders(l, func(m []api.Event) { alike(t, "another order", l, m) })
		if t.Failed() {
			t.Fatalf("at seed %d", seed)
		}
	}
}

// mixed is a list in another order.
func (s *dice) mixed(l []api.Event) []api.Event {
	l = slices.Clone(l)
	for i := range l {
		j := i + s.roll(len(l)-i)
		l[i], l[j] = l[j], l[i]
	}
	return l
}

// P10.2: some orders of many events tell the same, and so they do of junk whose dots are unlike.
func TestSomeOrders(t *testing.T) {
	for seed := range 300 {
		s := dice(seed)
		l := s.history(40)
		alike(t, "another order", l, s.mixed(l))
		var junk []api.Event
		for range 12 {
			e := s.junk()
			if !slices.ContainsFunc(junk, func(b api.Event) bool { return b.Dot == e.Dot }) {
				junk = append(junk, e)
			}
		}
		alike(t, "another order of junk", junk, s.mixed(junk))
		if t.Failed() {
			t.Fatalf("at seed %d", seed)
		}
	}
}

// repeated is each event as often as it stands in a list.
func repeated(told, l []api.Event) []api.Event {
	var m []api.Event
	for _, e := range told {
		for _, b := range l {
			if b == e {
				m = append(m, e)
			}
		}
	}
	return m
}

// P10.2: an event that stands there twice plays no more part than once, but that All and Of tell it as often.
func TestTwice(t *testing.T) {
	a := made(0, 1, 5, api.VV{}, op(api.SAdd, "k", "f"))
	b := made(1, 1, 6, api.VV{}, op(api.SAdd, "k", "g"))
	rem := made(1, 2, 7, api.VV{1, 1}, op(api.SRem, "k", "f"))
	tells(t, "twice and once", []api.Event{a, b, a}, a, a, b)
	keyed(t, "twice and once", []api.Event{a, b, a}, "k", api.Group, a, a, b)
	hasKeys(t, "twice and once", []api.Event{a, b, a}, "k")
	tells(t, "twice, ended once", []api.Event{a, rem, b, a}, b)
	tells(t, "twice, ended twice", []api.Event{rem, a, b, a, rem}, b)
	for seed := range 300 {
		s := dice(seed)
		l := s.history(20)
		m := slices.Clone(l)
		for range s.roll(9) {
			if len(l) > 0 {
				m = append(m, l[s.roll(len(l))])
			}
		}
		m = s.mixed(m)
		tells(t, "some twice", m, repeated(All(l), m)...)
		for _, key := range []string{"k", "j"} {
			keyed(t, "some twice", m, key, Type(l, key), repeated(Of(l, key), m)...)
		}
		hasKeys(t, "some twice", m, Keys(l)...)
		if t.Failed() {
			t.Fatalf("at seed %d", seed)
		}
	}
}

// P10.2: what isn't a key's plays no part for it, whatever it is.
func TestOtherKeysPlayNoPart(t *testing.T) {
	for seed := range 300 {
		s := dice(seed)
		l := s.history(20)
		for range 6 {
			l = append(l, s.junk())
		}
		for _, key := range []string{"k", "j", ""} {
			own := slices.DeleteFunc(slices.Clone(l), func(e api.Event) bool { return e.Op.Key != key })
			keyed(t, "its own alone", own, key, Type(l, key), Of(l, key)...)
			if len(own) > 0 && slices.Contains(Keys(l), key) != slices.Contains(Keys(own), key) {
				t.Errorf("the key %q: %q, of its own %q", key, Keys(l), Keys(own))
			}
		}
		if t.Failed() {
			t.Fatalf("at seed %d", seed)
		}
	}
}

// P10.3: what is live among all is live in each part that it stands in.
func TestLiveInEachPart(t *testing.T) {
	for seed := range 300 {
		s := dice(seed)
		l := s.history(24)
		if seed%3 == 0 {
			l = nil
			for range 10 {
				l = append(l, s.junk())
			}
		}
		all := All(l)
		for range 20 {
			part := slices.DeleteFunc(slices.Clone(l), func(api.Event) bool { return s.roll(3) == 0 })
			told := All(part)
			for _, e := range part {
				if slices.Contains(all, e) && !slices.Contains(told, e) {
					t.Fatalf("at seed %d: %v is live in %v, not in %v", seed, e, l, part)
				}
			}
		}
	}
}

// P10.3: nothing comes back: what one ended, and was ended itself, stays ended.
func TestNothingComesBack(t *testing.T) {
	a := made(0, 1, 5, api.VV{}, op(api.SAdd, "k", "f"))
	b := made(1, 1, 4, api.VV{1}, op(api.SAdd, "k", "f"))
	c := made(2, 1, 3, api.VV{0, 1}, op(api.SRem, "k", "f"))
	orders([]api.Event{a, b, c}, func(l []api.Event) { tells(t, "by one that was ended", l) })
	alike(t, "the second one kept", []api.Event{a, b, c}, append(All([]api.Event{a, b}), c))
}

// seeSplit holds that the live ones of the first n and all others tell what all do.
func seeSplit(t *testing.T, what string, l []api.Event, n int) {
	t.Helper()
	alike(t, what, l, append(All(l[:n]), l[n:]...))
}

// P10.3: of events of which no first one has seen one behind, the live ones of the first part and all of the
// second have the same live ones as all, wherever they are parted.
func TestOnlyLiveOnesAreKept(t *testing.T) {
	for seed := range 300 {
		s := dice(seed)
		l := s.history(24)
		for n := range len(l) + 1 {
			seeSplit(t, "parted", l, n)
		}
		// One by one, only live ones are ever kept.
		var kept []api.Event
		for _, e := range l {
			kept = All(append(kept, e))
		}
		alike(t, "one by one", l, kept)
		if t.Failed() {
			t.Fatalf("at seed %d", seed)
		}
	}
}

// P10.3: so it is of junk, too, where no first one has seen one behind.
func TestOnlyLiveOnesOfJunk(t *testing.T) {
	times := 0
	for seed := range 30000 {
		s := dice(seed)
		var l []api.Event
		for range 6 {
			l = append(l, s.junk())
		}
		n := 1 + s.roll(5)
		sees := slices.ContainsFunc(l[:n], func(b api.Event) bool {
			return slices.ContainsFunc(l[n:], func(a api.Event) bool { return has(b.Deps, a.Dot) })
		})
		if sees {
			continue
		}
		times++
		seeSplit(t, "parted junk", l, n)
		if t.Failed() {
			t.Fatalf("at seed %d", seed)
		}
	}
	if times < 500 {
		t.Errorf("only %d were parted: this tests too little", times)
	}
}

// R3: what goes in stays as it is, and what lies behind its length is neither read nor written.
func TestNothingIsChanged(t *testing.T) {
	for seed := range 200 {
		s := dice(seed)
		del := made(2, top, 9, api.VV{top, top, top}, op(api.Del, "k", ""))
		whole := append(s.mixed(s.history(20)), del, del)
		was, n := slices.Clone(whole), len(whole)-2
		l := whole[:n]
		want := plainAll(slices.Clone(l))
		tells(t, "a beginning", l, want...)
		for _, key := range []string{"k", "j"} {
			keyed(t, "a beginning", l, key, plainType(l, key), plainOf(l, key)...)
		}
		hasKeys(t, "a beginning", l, plainKeys(l)...)
		if !slices.Equal(whole, was) {
			t.Fatalf("at seed %d: %v became %v", seed, was, whole)
		}
	}
}

// R3: what comes out is a list of its own: who changes it changes neither what went in nor another answer.
func TestAnswersAreNew(t *testing.T) {
	a := made(0, 1, 5, api.VV{}, op(api.SAdd, "k", "f"))
	b := made(1, 1, 6, api.VV{}, op(api.SAdd, "k", "g"))
	c := made(2, 1, 7, api.VV{}, op(api.Set, "j", ""))
	was := []api.Event{a, b, c}
	l := slices.Clone(was)
	for _, tell := range []func() []api.Event{
		func() []api.Event { return All(l) },
		func() []api.Event { return Of(l, "k") },
	} {
		first, second := tell(), tell()
		held := slices.Clone(second)
		for i := range first {
			first[i] = api.Event{}
		}
		_ = append(first[:1], c, c, c)
		if !slices.Equal(l, was) || !slices.Equal(second, held) || !slices.Equal(tell(), held) {
			t.Errorf("%v, %v behind a change", l, second)
		}
		l[0], l[1] = c, c
		if !slices.Equal(second, held) {
			t.Errorf("%v behind a change of what went in", second)
		}
		l = slices.Clone(was)
	}
	keys, held := Keys(l), Keys(l)
	keys[0], keys[1] = "x", "y"
	if !slices.Equal(held, []string{"j", "k"}) || !slices.Equal(Keys(l), held) || !slices.Equal(l, was) {
		t.Errorf("%q, %v behind a change of the keys", held, l)
	}
}

// R6: asked again and again, the same is told.
func TestTheSameAgain(t *testing.T) {
	for seed := range 50 {
		s := dice(seed)
		l := s.history(30)
		for range 5 {
			alike(t, "again", l, l)
		}
	}
}
