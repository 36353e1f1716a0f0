package rga

import (
	"math"
	"slices"
	"testing"

	"polyphony/api"
	"polyphony/event"
)

// replicas is how many there are in the histories below.
const replicas = 3

// history is what replicas make of the keys k and j that now and then see what others have seen: events that can be,
// each behind all that it has seen.
func (s *dice) history(steps int) []api.Event {
	var l []api.Event
	var seen [replicas]api.VV
	for range steps {
		r, other := s.roll(replicas), s.roll(replicas)
		if s.roll(3) == 0 {
			for i, n := range seen[other] {
				seen[r][i] = max(seen[r][i], n)
			}
			continue
		}
		e := seeing(made(api.Push, r, seen[r][r]+1, len(l)/3, string(rune('a'+len(l)%26)), api.Dot{}), seen[r])
		e.Op.Key = []string{"k", "k", "k", "j"}[s.roll(4)]
		l = append(l, s.aimed(e, l))
		seen[r][r]++
	}
	return l
}

// aimed is an event that hangs on, or ends, a node that it has seen, if there is one and the dice say so.
func (s *dice) aimed(e api.Event, l []api.Event) api.Event {
	nodes := slices.DeleteFunc(plainNodes(l, e.Op.Key), func(a api.Event) bool { return !has(e.Deps, a.Dot) })
	if len(nodes) == 0 || s.roll(6) == 0 {
		return e
	}
	e.Op.Ref = nodes[s.roll(len(nodes))].Dot
	switch s.roll(12) {
	case 0:
		e.Op.Kind, e.Op.Value, e.Op.Ref = api.Del, "", api.Dot{}
	case 1, 2:
		e.Op.Kind, e.Op.Value = api.LRem, ""
	}
	return e
}

// The histories are ones that can be, and in them much hangs on others, much is ended, and much isn't.
func TestHistories(t *testing.T) {
	nodes, items, hang := 0, 0, 0
	for seed := range 300 {
		s := dice(seed)
		l := s.history(40)
		for _, e := range l {
			if !event.Right(e) {
				t.Fatalf("%v can't be", e)
			}
		}
		asTold(t, "a history", l)
		own := plainNodes(l, "k")
		for _, e := range own {
			if plainParent(own, e) >= 0 {
				hang++
			}
		}
		nodes, items = nodes+len(own), items+len(Items(l, "k"))
	}
	if hang*3 < nodes || items*4 < nodes || items*4 > nodes*3 {
		t.Errorf("of %d nodes %d hang, %d are items: this tests too little", nodes, hang, items)
	}
}

// P16.1, R1: all of it by the document's words, of lists of events many of which can't be.
func TestManyLists(t *testing.T) {
	hang := 0
	for seed := range 3000 {
		s := dice(seed)
		l := s.junks(20)
		asTold(t, "some", l)
		nodes := plainNodes(l, "k")
		for _, e := range nodes {
			hang += min(plainParent(nodes, e)+1, 1)
		}
		if t.Failed() {
			t.Fatalf("at seed %d", seed)
		}
	}
	if hang < 3000 {
		t.Errorf("only %d hang: this tests too little", hang)
	}
}

// sameTold holds that two lists tell the same of each key.
func sameTold(t *testing.T, what string, l, m []api.Event) {
	t.Helper()
	for _, key := range keys(slices.Concat(l, m)) {
		isOrder(t, what, m, key, Order(l, key))
		isItems(t, what, m, key, Items(l, key))
	}
}

// P16.2: each order of few events with unlike dots tells the same.
func TestEachOrder(t *testing.T) {
	for seed := range 20 {
		s := dice(seed)
		l := unlike(s.junks(20))
		if seed%2 == 0 {
			l = s.history(9)
		}
		l = l[:min(len(l), 6)]
		orders(l, func(m []api.Event) { sameTold(t, "another order", l, m) })
		if t.Failed() {
			t.Fatalf("at seed %d", seed)
		}
	}
}

// P16.2: some orders of many events with unlike dots tell the same.
func TestSomeOrders(t *testing.T) {
	for seed := range 100 {
		s := dice(seed)
		for _, l := range [][]api.Event{s.history(60), unlike(s.junks(40))} {
			for range 3 {
				sameTold(t, "another order", l, s.mixed(l))
			}
		}
		if t.Failed() {
			t.Fatalf("at seed %d", seed)
		}
	}
}

// P16.2: where some dots are alike, too, two events side by side with unlike dots may change their places.
func TestUnlikeOnesChangePlaces(t *testing.T) {
	for seed := range 1000 {
		s := dice(seed)
		l := s.junks(20)
		m := slices.Clone(l)
		for range 9 * len(m) {
			if i := 1 + s.roll(len(m)); i < len(m) && m[i-1].Dot != m[i].Dot {
				m[i-1], m[i] = m[i], m[i-1]
			}
		}
		sameTold(t, "changed places", l, m)
		if t.Failed() {
			t.Fatalf("at seed %d", seed)
		}
	}
}

// P16.2: an event on which none hangs changes nothing in how the others stand: with it and without it they are the same,
// be it of the list or not.
func TestWithoutOne(t *testing.T) {
	nodes, others := 0, 0
	for seed := range 1000 {
		s := dice(seed)
		l := s.history(30)
		if seed%2 == 0 {
			l = s.junks(20)
		}
		own := plainNodes(l, "k")
		hangs := map[int]int{}
		for _, e := range own {
			hangs[plainParent(own, e)]++
		}
		at := 0
		for i, e := range l {
			m := slices.Delete(slices.Clone(l), i, i+1)
			if e.Op.Kind != api.Push || e.Op.Key != "k" {
				others++
				isOrder(t, "without no node", m, "k", Order(l, "k"))
				continue
			}
			if at++; hangs[at-1] == 0 {
				nodes++
				whole := Order(l, "k")
				isOrder(t, "without one", m, "k", slices.Delete(whole, indexOf(l, i, whole), indexOf(l, i, whole)+1))
			}
		}
		if t.Failed() {
			t.Fatalf("at seed %d", seed)
		}
	}
	if nodes < 3000 || others < 3000 {
		t.Errorf("only %d nodes and %d others: this tests too little", nodes, others)
	}
}

// indexOf is where in a told order the event at a place of a list stands: of those that are the same as often behind
// the first one as in the list.
func indexOf(l []api.Event, i int, told []api.Event) int {
	ahead := 0
	for _, e := range l[:i] {
		if e == l[i] {
			ahead++
		}
	}
	for at, e := range told {
		if e == l[i] {
			if ahead == 0 {
				return at
			}
			ahead--
		}
	}
	return -1
}

// P16.2: what is pushed later than all behind the Anchor of a place stands at that place among the items, wherever in
// the list it comes; the others stay as they stood.
func TestPushedBehindAnchor(t *testing.T) {
	for seed := range 100 {
		s := dice(seed)
		for _, l := range [][]api.Event{s.history(40), unlike(s.junks(30)), nil} {
			for _, key := range []string{"k", "j", ""} {
				pushAtEach(t, &s, l, key)
			}
		}
		if t.Failed() {
			t.Fatalf("at seed %d", seed)
		}
	}
}

// pushAtEach pushes at each place of a key's items, later than all, and holds what is told then against what was. No
// list of these tests has seen the dot with which it is done, and their zero dots, which can't be, are no Refs.
func pushAtEach(t *testing.T, s *dice, l []api.Event, key string) {
	t.Helper()
	l = slices.DeleteFunc(slices.Clone(l), func(e api.Event) bool {
		return e.Time == math.MaxInt || e.Dot == dot(last, top) || e.Dot == api.Dot{}
	})
	items := Items(l, key)
	for at := range len(items) + 1 {
		anchor, fault := Anchor(l, key, at)
		if fault != api.OK {
			t.Fatalf("Anchor of %q of %v at %d: %d", key, l, at, fault)
		}
		e := keyed(push(last, top, math.MaxInt, "new", anchor), key)
		m := slices.Insert(slices.Clone(l), s.roll(len(l)+1), e)
		isItems(t, "one pushed", m, key, slices.Insert(slices.Clone(items), at, e))
		isOrder(t, "one pushed", slices.DeleteFunc(Order(m, key), func(b api.Event) bool { return b == e }), key, Order(l, key))
	}
}

// P16.1, P16.2: a list that is pushed at places as a client would, and from which items are taken, stands as a slice
// to which the same was done.
func TestAsASlice(t *testing.T) {
	for seed := range 100 {
		s := dice(seed)
		var l []api.Event
		var want []string
		var seen api.VV
		for i := range 60 {
			r := s.roll(replicas)
			e := seeing(push(r, seen[r]+1, i, string(rune('a'+i)), api.Dot{}), seen)
			if n := s.roll(len(want) + 1); n < len(want) && s.roll(3) == 0 {
				e.Op.Kind, e.Op.Value, e.Op.Ref = api.LRem, "", Items(l, "k")[n].Dot
				want = slices.Delete(want, n, n+1)
			} else {
				e.Op.Ref, _ = Anchor(l, "k", n)
				want = slices.Insert(want, n, e.Op.Value)
			}
			seen[r]++
			l = append(l, e)
			var got []string
			for _, e := range Items(l, "k") {
				got = append(got, e.Op.Value)
			}
			if !slices.Equal(got, want) {
				t.Fatalf("at seed %d: %q, not %q", seed, got, want)
			}
		}
	}
}

// P16.1: each node stands in the order once, behind its parent; between them stands only what hangs on the parent, too.
func TestEachOnceBehindItsParent(t *testing.T) {
	for seed := range 1000 {
		s := dice(seed)
		l := s.history(40)
		if seed%2 == 0 {
			l = unlike(s.junks(40))
		}
		nodes, told := plainNodes(l, "k"), Order(l, "k")
		if len(nodes) != len(told) {
			t.Fatalf("at seed %d: %d of %d nodes", seed, len(told), len(nodes))
		}
		place := map[api.Dot]int{}
		for at, e := range told {
			if was, twice := place[e.Dot]; twice {
				t.Fatalf("at seed %d: %v at %d and at %d", seed, e, was, at)
			}
			place[e.Dot] = at
			if p := plainParent(nodes, e); p >= 0 {
				behind, there := place[nodes[p].Dot]
				if !there {
					t.Fatalf("at seed %d: %v ahead of its parent %v", seed, e, nodes[p])
				}
				for _, b := range told[behind+1 : at] {
					if !hangsOn(nodes, b, nodes[p]) {
						t.Fatalf("at seed %d: %v between %v and %v", seed, b, nodes[p], e)
					}
				}
			}
		}
	}
}

// hangsOn is whether a node hangs on another one, or on one that does.
func hangsOn(nodes []api.Event, e, on api.Event) bool {
	for p := plainParent(nodes, e); p >= 0; p = plainParent(nodes, nodes[p]) {
		if nodes[p] == on {
			return true
		}
	}
	return false
}

// P16.1: events of other keys play no part, whatever they are.
func TestOtherKeysPlayNoPart(t *testing.T) {
	for seed := range 1000 {
		s := dice(seed)
		l := s.mixed(slices.Concat(s.history(20), s.junks(20)))
		for _, key := range []string{"k", "j", ""} {
			own := slices.DeleteFunc(slices.Clone(l), func(e api.Event) bool { return e.Op.Key != key })
			isOrder(t, "its own alone", own, key, Order(l, key))
			isItems(t, "its own alone", own, key, Items(l, key))
		}
		if t.Failed() {
			t.Fatalf("at seed %d", seed)
		}
	}
}

// R6: no answer hangs on a map's order: of many nodes all calls tell the same, in the same order.
func TestNoMapsOrder(t *testing.T) {
	for _, n := range []int{2, 3, 8, 9, 40, 300} {
		s := dice(n)
		var l []api.Event
		for i := range n {
			l = append(l, push(i%16, 1+i/16, i/5, "v", dot(s.roll(16), s.roll(1+i/16))))
			if i%7 == 0 {
				l = append(l, seeing(made(api.LRem, i%16, 1+i/16, 0, "", dot(s.roll(16), 1+s.roll(1+i/16))), all()), l[s.roll(len(l))])
			}
		}
		order, items := plainOrder(l, "k"), plainItems(l, "k")
		for range 20 {
			isOrder(t, "again", l, "k", order)
			if got := Items(l, "k"); !slices.Equal(got, items) {
				t.Fatalf("again: Items: %v, not %v", few(got), few(items))
			}
			isAnchor(t, "again", l, "k", len(items), items[len(items)-1].Dot)
		}
	}
}

// R1: a row of many nodes, each behind the one ahead of it, is told, in whatever order they come; so are two rows.
func TestLongRow(t *testing.T) {
	for _, n := range []int{5000, 1 << 16} {
		s := dice(n)
		row := make([]api.Event, n)
		for i := range row {
			row[i] = node(i+1, "v", i)
		}
		cut := del(n / 2)
		for _, l := range [][]api.Event{row, s.mixed(row)} {
			isOrder(t, "a row", l, "k", row)
			isItems(t, "a row", l, "k", row)
			isItems(t, "half of a row", with(l, cut), "k", row[n/2:])
		}
		// Each behind the second one ahead of it: the row of the later one of the first two stands first.
		twin := slices.Clone(row)
		var want []api.Event
		for i := range twin {
			twin[i] = node(i+1, "v", max(i-1, 0))
		}
		for _, first := range []int{1, 0} {
			for i := first; i < n; i += 2 {
				want = append(want, twin[i])
			}
		}
		isOrder(t, "two rows", s.mixed(twin), "k", want)
	}
}

// R1: many nodes on one, and many of one dot, are told as well.
func TestManyNodes(t *testing.T) {
	const n = 1 << 15
	s := dice(n)
	wide := []api.Event{node(1, "a", 0)}
	for i := n; i > 1; i-- {
		wide = append(wide, node(i, "v", 1))
	}
	isOrder(t, "many on one", s.mixed(wide), "k", wide)
	isItems(t, "many on one, of which one is ended", with(s.mixed(wide), rem(1, n)), "k", slices.Delete(slices.Clone(wide), 1, 2))
	// Of one dot, falling in time, so that each of the others hangs on one of its own, far behind in the list.
	var same, want []api.Event
	for i := range n / 2 {
		same = append(same, root(1, 1, n-2*i, "s"))
	}
	for i, e := range same {
		b := push(2, 1, n-2*i+1, "b", dot(1, 1))
		want = append(want, e, b)
		same = append(same, b)
	}
	isOrder(t, "many of one dot", same, "k", want)
}

// R3: what goes in stays as it is, and what lies behind a list's length is neither read nor written.
func TestWhatGoesInStays(t *testing.T) {
	for seed := range 300 {
		s := dice(seed)
		behind := []api.Event{node(99, "behind", 1), rem(1, 1), seeing(del(top), all()), root(0, 1, math.MinInt, "behind")}
		room := slices.Concat(s.history(20), s.junks(9), behind)
		l := room[:s.roll(len(room)-3)]
		was := slices.Clone(room)
		asTold(t, "with events behind", l)
		if !slices.Equal(room, was) {
			t.Fatalf("at seed %d: %v became %v", seed, was, room)
		}
	}
}

// R3, R6: what comes out is a list of its own: it stays when what went in is changed, or what another call told; and
// changing it changes nothing that is told later on.
func TestListsOfTheirOwn(t *testing.T) {
	was := with(tree(), rem(1, 2))
	for _, tell := range []func(l []api.Event) []api.Event{
		func(l []api.Event) []api.Event { return Order(l, "k") },
		func(l []api.Event) []api.Event { return Items(l, "k") },
		func(l []api.Event) []api.Event { return Order(l[:1], "k") },
		func(l []api.Event) []api.Event { return Items(l[:1], "k") },
	} {
		l := slices.Clone(was)
		first, second := tell(l), tell(l)
		held := slices.Clone(second)
		clear(first)
		_ = append(first[:1], node(77, "x", 0), node(78, "y", 0), node(79, "z", 0))
		if !slices.Equal(l, was) || !slices.Equal(second, held) || !slices.Equal(tell(l), held) {
			t.Errorf("%v, %v behind a change", l, second)
		}
		clear(l)
		if !slices.Equal(second, held) {
			t.Errorf("%v behind a change of what went in", second)
		}
	}
}
