package score

import (
	"math"
	"slices"
	"testing"

	"polyphony/api"
)

// P15.1, R1: all of it by the document's words, of lists of events many of which can't be.
func TestManyLists(t *testing.T) {
	for seed := range 5000 {
		s := dice(seed)
		asTold(t, "some", s.junks(12))
		if t.Failed() {
			t.Fatalf("at seed %d", seed)
		}
	}
}

// P15.1: All tells of each member what Get tells, each once, and those alone of which Get tells something; Rank tells
// its place there, and of those alone.
func TestAllIsWhatGetAndRankTell(t *testing.T) {
	for seed := range 1000 {
		s := dice(seed)
		l := s.junks(20)
		all := All(l)
		times := map[string]int{}
		for at, p := range all {
			times[p.Member]++
			isGet(t, "of All", l, p.Member, p.Score)
			isRank(t, "of All", l, p.Member, at)
		}
		for _, f := range fields(l) {
			_, got := Get(l, f)
			_, ranked := Rank(l, f)
			if got != (times[f] == 1) || ranked != got {
				t.Errorf("%q: %d times in All, Get %t, Rank %t", f, times[f], got, ranked)
			}
		}
		if t.Failed() {
			t.Fatalf("at seed %d", seed)
		}
	}
}

// P15.3: of All the scores never fall; of one score the names rise, so that none stands there twice.
func TestScoresNeverFall(t *testing.T) {
	for seed := range 3000 {
		s := dice(seed)
		l := s.junks(40)
		all := All(l)
		for i := range len(all) - 1 {
			a, b := all[i], all[i+1]
			if a.Score > b.Score || a.Score == b.Score && !lower(a.Member, b.Member) {
				t.Fatalf("at seed %d: %v ahead of %v", seed, a, b)
			}
		}
	}
}

// sameTold holds that two lists tell the same.
func sameTold(t *testing.T, what string, l, m []api.Event) {
	t.Helper()
	isAll(t, what, m, All(l)...)
	for _, s := range fields(slices.Concat(l, m)) {
		if want, ok := Get(l, s); ok {
			rank, _ := Rank(l, s)
			isGet(t, what, m, s, want)
			isRank(t, what, m, s, rank)
		} else {
			isNone(t, what, m, s)
		}
	}
}

// unlike is a list without those events whose dots stand ahead of them.
func unlike(l []api.Event) []api.Event {
	var m []api.Event
	for _, e := range l {
		if !slices.ContainsFunc(m, func(b api.Event) bool { return b.Dot == e.Dot }) {
			m = append(m, e)
		}
	}
	return m
}

// P15.3: each order of few events with unlike dots tells the same.
func TestEachOrder(t *testing.T) {
	for seed := range 100 {
		s := dice(seed)
		l := unlike(s.junks(12))
		l = l[:min(len(l), 6)]
		orders(l, func(m []api.Event) { sameTold(t, "another order", l, m) })
		if t.Failed() {
			t.Fatalf("at seed %d", seed)
		}
	}
}

// P15.3: some orders of many events with unlike dots tell the same, and so it is if they stand there twice.
func TestSomeOrders(t *testing.T) {
	for seed := range 20 {
		s := dice(seed)
		var l []api.Event
		for n := range 300 {
			l = append(l, made(6+s.roll(3), n%16, 1+n/16, s.roll(4), texts()[s.roll(len(texts()))], s.roll(9)-4))
		}
		asTold(t, "many", l)
		for range 3 {
			sameTold(t, "another order", l, s.mixed(l))
		}
		sameTold(t, "all twice", l, slices.Concat(l, l))
		sameTold(t, "all three times, in another order", l, s.mixed(slices.Concat(l, l, l)))
		if t.Failed() {
			t.Fatalf("at seed %d", seed)
		}
	}
}

// P15.1, P15.3: an event that stands there twice is told as once, beside itself and with others between.
func TestTwice(t *testing.T) {
	a, b, c := add(1, 1, 5, "f", 9), add(1, 2, 5, "f", 3), add(2, 1, 4, "g", 4)
	orders([]api.Event{a, a, b, b, c, c}, func(l []api.Event) { isAll(t, "twice", l, pair("f", 3), pair("g", 4)) })
	isAll(t, "alone", []api.Event{a, a}, pair("f", 9))
}

// R6: no answer hangs on a map's order: of many members all calls tell the same, in the same order, be their scores
// alike or not.
func TestNoMapsOrder(t *testing.T) {
	for _, n := range []int{2, 3, 8, 9, 40, 1000} {
		for _, scores := range []int{1, 2, n} {
			var l []api.Event
			for i := range n {
				l = append(l, add(i%16, 1+i, 5, textOf(i), i*7%scores), add(1, 1, 5, "f", i), add(i%16, 1+i, 4, textOf(i), -1))
			}
			want := plainAll(l)
			for range 20 {
				if got := All(l); !slices.Equal(got, want) {
					t.Fatalf("again: All: %v, not %v", few(got), few(want))
				}
				isGet(t, "again", l, "f", 0)
				isRank(t, "again", l, want[n/2].Member, n/2)
			}
		}
	}
}

// R3: what goes in stays as it is, and what lies behind a list's length is neither read nor written.
func TestWhatGoesInStays(t *testing.T) {
	for seed := range 300 {
		s := dice(seed)
		late := []api.Event{add(15, 9, math.MaxInt, "behind", 1), add(15, 8, math.MaxInt, "a", 2), add(15, 7, math.MaxInt, "", 3)}
		room := append(s.junks(9), late...)
		l := room[:s.roll(len(room)-2)]
		was := slices.Clone(room)
		asTold(t, "with events behind", l)
		isNone(t, "with events behind", l, "behind")
		if !slices.Equal(room, was) {
			t.Fatalf("%v became %v", was, room)
		}
	}
}

// R3, R6: what comes out is a list of its own: it stays when what went in is changed, or what another call told; and
// changing it changes nothing that is told later on.
func TestListsOfTheirOwn(t *testing.T) {
	l := []api.Event{add(1, 2, 6, "g", 2), add(0, 1, 5, "f", 3), add(1, 1, 4, "g", 9), add(1, 3, 7, "h", 1)}
	was, want := slices.Clone(l), []Pair{pair("h", 1), pair("g", 2), pair("f", 3)}
	all, again := All(l), All(l)
	all[0] = pair("z", 26)
	_ = append(all[:1], pair("x", 24), pair("y", 25))
	if !slices.Equal(again, want) {
		t.Errorf("another call's answer became %v", again)
	}
	if !slices.Equal(l, was) {
		t.Errorf("what went in became %v", l)
	}
	isAll(t, "told again", l, want...)
	clear(l)
	if !slices.Equal(again, want) {
		t.Errorf("%v when what went in was changed", again)
	}
	isAll(t, "changed", l)
	isNone(t, "changed", l, "g")
}

// R1: a long list is told, too, of one member and of many.
func TestLongList(t *testing.T) {
	const n = 200000
	for _, many := range []int{1, 2, 2000, 16000} {
		l := make([]api.Event, n)
		scores, times := make([]int, many), make([]int, many)
		for i := range l {
			f := i % many
			l[i] = add(i%16, 1+i, 1+(i*7919)%n, textOf(f), i%97-48)
			if l[i].Time > times[f] {
				times[f], scores[f] = l[i].Time, l[i].Op.Num
			}
		}
		var want []Pair
		for n := -48; n <= 48; n++ {
			for f, score := range scores {
				if score == n {
					want = append(want, pair(textOf(f), n))
				}
			}
		}
		if got := All(l); !slices.Equal(got, want) {
			t.Errorf("All: %d members, not %d: %v, not %v", len(got), len(want), few(got), few(want))
		}
		isGet(t, "long", l, want[many/2].Member, want[many/2].Score)
		isRank(t, "long", l, want[many/2].Member, many/2)
		isNone(t, "long", l, "f")
	}
}
