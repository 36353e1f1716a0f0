package score

import (
	"math"
	"slices"
	"strings"
	"testing"

	"polyphony/api"
)

// P15.1: the document's example.
func TestExample(t *testing.T) {
	orders([]api.Event{add(1, 1, 1, "a", 2), add(1, 2, 2, "b", 1), add(1, 3, 3, "c", 1)}, func(l []api.Event) {
		isAll(t, "the example", l, pair("b", 1), pair("c", 1), pair("a", 2))
		if n, ok := Rank(l, "a"); n != 2 || !ok {
			t.Errorf("the example: Rank of a: %d, %t", n, ok)
		}
	})
}

// P15.1, R1, R2, R4: of no events there are no members, be the list nil or empty; not even the empty text is one.
func TestNoEvents(t *testing.T) {
	for _, l := range [][]api.Event{nil, {}, make([]api.Event, 0, 9), []api.Event{add(1, 1, 5, "a", 7)}[:0]} {
		isAll(t, "none", l)
		for _, s := range texts() {
			isNone(t, "none", l, s)
		}
	}
}

// P15.1: one event, with each text as its Field, and with each number: this member is there, and no other.
func TestOneEvent(t *testing.T) {
	for i, s := range texts() {
		for _, n := range numbers() {
			l := []api.Event{add(i%16, 1+i, i, s, n)}
			isAll(t, "one", l, pair(s, n))
			for _, other := range texts() {
				if other != s {
					isNone(t, "one", l, other)
				}
			}
		}
	}
}

// P15.1: several events, of one Field and of several.
func TestSeveralEvents(t *testing.T) {
	one := []api.Event{add(1, 2, 6, "a", 2), add(0, 7, 8, "a", -3), add(1, 1, 5, "a", 9)}
	isAll(t, "of one Field", one, pair("a", -3))
	several := []api.Event{
		add(3, 1, 4, "c", 1), add(2, 1, 9, "a", 2), add(1, 1, 3, "b", 3), add(0, 1, 5, "c", 4), add(0, 2, 7, "a", 5),
	}
	isAll(t, "of several", several, pair("a", 2), pair("b", 3), pair("c", 4))
	var each []api.Event
	var want []Pair
	for i, s := range texts() {
		each = append(each, add(1, 1+i, 5, s, i), add(2, 1+i, 6, s, -i), add(3, 1+i, 4, s, i*7%11))
		want = append(want, pair(s, -i))
	}
	slices.Reverse(want)
	isAll(t, "of each text", each, want...)
}

// P15.1: the greater time wins, whatever the dots are; at one time the greater replica, whatever the numbers are;
// of one replica the greater number.
func TestWhichIsLatest(t *testing.T) {
	for _, c := range []struct {
		what         string
		early, later api.Event
	}{
		{"the time", add(1, 1, 5, "f", 1), add(1, 2, 6, "f", 2)},
		{"the time, ahead of the replica", add(15, 1, 5, "f", 1), add(0, 1, 6, "f", 2)},
		{"the time, ahead of the number", add(1, 1<<20, 5, "f", 1), add(1, 1, 6, "f", 2)},
		{"the times' edges", add(9, 9, 0, "f", 1), add(1, 1, 1<<60-1, "f", 2)},
		{"times as numbers", add(9, 9, 9, "f", 1), add(1, 1, 10, "f", 2)},
		{"the replica", add(0, 1, 5, "f", 1), add(1, 1, 5, "f", 2)},
		{"the replica, ahead of the number", add(1, 9, 5, "f", 1), add(2, 1, 5, "f", 2)},
		{"replicas as numbers", add(9, 1, 5, "f", 1), add(10, 1, 5, "f", 2)},
		{"the number", add(1, 1, 5, "f", 1), add(1, 2, 5, "f", 2)},
		{"the numbers' edges", add(1, 1, 5, "f", 1), add(1, 1<<20, 5, "f", 2)},
		{"numbers as numbers", add(1, 9, 5, "f", 1), add(1, 10, 5, "f", 2)},
		{"not the greater score", add(1, 1, 5, "f", 9), add(1, 2, 6, "f", 3)},
		{"not the score that isn't 0", add(1, 1, 5, "f", 9), add(1, 2, 6, "f", 0)},
		{"not the score above 0", add(1, 1, 5, "f", 9), add(1, 2, 6, "f", -9)},
		{"not the sum", add(1, 1, 5, "f", 40), add(1, 2, 6, "f", 41)},
		{"below 0, the time", add(-1, -1, -5, "f", 1), add(-9, -9, -4, "f", 2)},
		{"below 0, the replica", add(-2, -1, -5, "f", 1), add(-1, -9, -5, "f", 2)},
		{"below 0, the number", add(-2, -2, -5, "f", 1), add(-2, -1, -5, "f", 2)},
		{"times far apart", add(1, 1, math.MinInt, "f", 1), add(1, 1, math.MaxInt, "f", 2)},
		{"replicas far apart", add(math.MinInt, 1, 5, "f", 1), add(math.MaxInt, 1, 5, "f", 2)},
		{"numbers far apart", add(1, math.MinInt, 5, "f", 1), add(1, math.MaxInt, 5, "f", 2)},
	} {
		orders([]api.Event{c.early, c.later}, func(l []api.Event) { isAll(t, c.what, l, pair("f", c.later.Op.Num)) })
		orders([]api.Event{c.early, add(15, 1<<20, math.MaxInt, "g", 99), c.later, c.early}, func(l []api.Event) {
			isAll(t, c.what+", with another member", l, pair("f", c.later.Op.Num), pair("g", 99))
		})
	}
}

// P15.1: the latest one of a Field is found at each place of a list, by its time, its replica and its number.
func TestLatestAtEachPlace(t *testing.T) {
	const n = 9
	for at := range n {
		byTime, byReplica, byNumber := make([]api.Event, n), make([]api.Event, n), make([]api.Event, n)
		for i := range n {
			byTime[i] = add(i%3, 1+i, i%4, "f", 7)
			byReplica[i], byNumber[i] = add(i%4, 1+i, 5, "f", 7), add(5, 1+i%4, 5, "f", 7)
		}
		byTime[at], byReplica[at], byNumber[at] = add(0, 1, 4, "f", 3), add(4, 1, 5, "f", 3), add(5, 5, 5, "f", 3)
		for _, l := range [][]api.Event{byTime, byReplica, byNumber} {
			isAll(t, "at a place", l, pair("f", 3))
			l[at].Op.Field = "g"
			isAll(t, "another member at a place", l, pair("g", 3), pair("f", 7))
			l[at].Op.Kind = api.ZRem
			isAll(t, "another kind at a place", l, pair("f", 7))
		}
	}
}

// P15.1, P15.3: the least score stands first, whatever the names are: each two of the numbers, and all of them at once.
func TestByScores(t *testing.T) {
	rising := numbers()
	var all []api.Event
	var want []Pair
	for i, n := range rising {
		// The names fall as the scores rise.
		name := textOf(999 - i)
		all, want = append(all, add(i%16, 1+i, 5, name, n)), append(want, pair(name, n))
		for _, m := range rising[i+1:] {
			for _, names := range [][2]string{{"a", "b"}, {"b", "a"}, {"", "\xff"}, {"\xff", ""}} {
				low, high := add(0, 1, 5, names[0], n), add(0, 2, 6, names[1], m)
				isAll(t, "two", []api.Event{low, high}, pair(names[0], n), pair(names[1], m))
				isAll(t, "two, the greater one first", []api.Event{high, low}, pair(names[0], n), pair(names[1], m))
			}
		}
	}
	isAll(t, "all", all, want...)
	slices.Reverse(all)
	isAll(t, "all, the greatest first", all, want...)
}

// P15.1: of one score the names rise byte by byte: each two texts of those that rise, and all of them at once.
func TestByNames(t *testing.T) {
	rising := texts()
	for _, n := range []int{0, 1, -1, math.MinInt, math.MaxInt} {
		var all []api.Event
		var want []Pair
		for i, a := range rising {
			all, want = append(all, add(0, 1+i, 5, a, n)), append(want, pair(a, n))
			for _, b := range rising[i+1:] {
				low, high := add(0, 1, 6, a, n), add(0, 2, 5, b, n)
				isAll(t, "two", []api.Event{low, high}, pair(a, n), pair(b, n))
				isAll(t, "two, the greater one first", []api.Event{high, low}, pair(a, n), pair(b, n))
			}
		}
		isAll(t, "all", all, want...)
		slices.Reverse(all)
		isAll(t, "all, the greatest first", all, want...)
	}
}

// P15.1: each byte is told apart, and rises as a number from 0 to 255, alone and behind others.
func TestEachByte(t *testing.T) {
	for _, ahead := range []string{"", "a", "\xff", "\x00\x00", strings.Repeat("m", 63)} {
		var l []api.Event
		var want []Pair
		for b := range 256 {
			s := ahead + string([]byte{byte(b)})
			want = append(want, pair(s, -4))
			l = append(l, add(1, 256-b, 5, s, -4))
		}
		for _, m := range [][]api.Event{l, slices.Concat(l[128:], l[:128]), slices.Concat(l[200:], l)} {
			isAll(t, "each byte", m, want...)
		}
	}
}

// P15.1: members of few scores stand by scores, and those of one score by names, however the two go against one
// another; earlier scores of theirs play no part.
func TestScoresThenNames(t *testing.T) {
	l := []api.Event{
		add(0, 1, 5, "a", 3), add(0, 2, 5, "b", -3), add(0, 3, 5, "c", 3), add(0, 4, 5, "d", -3), add(0, 5, 5, "e", 0), add(0, 6, 5, "", 3),
	}
	want := []Pair{pair("b", -3), pair("d", -3), pair("e", 0), pair("", 3), pair("a", 3), pair("c", 3)}
	orders(l, func(l []api.Event) { isAll(t, "of few scores", l, want...) })
	early := slices.Clone(l)
	for i := range early {
		early[i].Time, early[i].Op.Num = 4, 9-i
	}
	isAll(t, "behind earlier ones", slices.Concat(early, l), want...)
	isAll(t, "ahead of earlier ones", slices.Concat(l, early), want...)
}

// P15.1: the empty text is a member, if a ZAdd event has it as its Field, and only then.
func TestEmptyField(t *testing.T) {
	empty, a := add(2, 1, 5, "", 3), add(1, 1, 6, "a", 3)
	isAll(t, "alone", []api.Event{empty}, pair("", 3))
	orders([]api.Event{empty, a}, func(l []api.Event) { isAll(t, "beside one of its score", l, pair("", 3), pair("a", 3)) })
	orders([]api.Event{empty, a, add(2, 2, 7, "", 4)}, func(l []api.Event) {
		isAll(t, "beside one of a lower score", l, pair("a", 3), pair("", 4))
	})
	isAll(t, "not there", []api.Event{a}, pair("a", 3))
	isAll(t, "of an Incr", []api.Event{a, made(api.Incr, 2, 1, 9, "", 3)}, pair("a", 3))
}

// P15.1, R2: 0 is a score: it is told with true, if the latest one has it, and only then; a rank of 0 is, too.
func TestScoreZero(t *testing.T) {
	zero, other := add(1, 1, 5, "f", 0), add(1, 2, 6, "f", 7)
	isAll(t, "alone", []api.Event{zero}, pair("f", 0))
	orders([]api.Event{zero, other}, func(l []api.Event) { isAll(t, "the earlier one", l, pair("f", 7)) })
	zero.Time = 7
	orders([]api.Event{zero, other, add(0, 1, 8, "g", 0), add(0, 2, 8, "e", -1)}, func(l []api.Event) {
		isAll(t, "the later one", l, pair("e", -1), pair("f", 0), pair("g", 0))
	})
	isAll(t, "of an empty Field", []api.Event{add(1, 1, 5, "", 0)}, pair("", 0))
}

// P15.1: events of one Field with the same Num tell it once, be it an earlier one's alone or the latest one's, too.
func TestSameNum(t *testing.T) {
	a, b, c := add(1, 1, 5, "f", 3), add(2, 1, 6, "f", 3), add(0, 1, 7, "f", 4)
	orders([]api.Event{a, b}, func(l []api.Event) { isAll(t, "all with one", l, pair("f", 3)) })
	orders([]api.Event{a, b, c}, func(l []api.Event) { isAll(t, "a later one with another", l, pair("f", 4)) })
	orders([]api.Event{a, b, c, add(0, 2, 8, "f", 3)}, func(l []api.Event) { isAll(t, "back again", l, pair("f", 3)) })
	b.Op.Field = "g"
	orders([]api.Event{a, b}, func(l []api.Event) { isAll(t, "of two members", l, pair("f", 3), pair("g", 3)) })
}

// P15.1: Fields of which one is another one's beginning, that are unlike in one byte alone, or in a letter's size.
func TestAlikeFields(t *testing.T) {
	l := []api.Event{
		add(0, 1, 1, "ab", 2), add(0, 2, 2, "abc", 2), add(0, 3, 3, "abd", 2),
		add(0, 4, 4, "Ab", 2), add(0, 5, 5, "ab\x00", 2), add(0, 6, 6, "bb", 1),
	}
	isAll(t, "alike", l, pair("bb", 1), pair("Ab", 2), pair("ab", 2), pair("ab\x00", 2), pair("abc", 2), pair("abd", 2))
	for _, s := range []string{"a", "b", "AB", "aB", "ab ", " ab", "abcd", "abe", "c", "\x00", "ab\x00\x00", "abcabd"} {
		isNone(t, "not there", l, s)
	}
	long := strings.Repeat("x", 63)
	for i := range 64 {
		one, other := long[:i]+"a"+long[i:], long[:i]+"b"+long[i:]
		m := []api.Event{add(1, 2, 6, other, 5), add(1, 1, 5, one, 5)}
		isAll(t, "one byte", m, pair(one, 5), pair(other, 5))
		isNone(t, "one byte", m, long[:i]+"c"+long[i:])
	}
}

// P15.1: of a Field's events of which none is later the first one in the list is told, unlike as they are; what other
// members and kinds there are ahead of it plays no part.
func TestNoneIsLater(t *testing.T) {
	v, w, zero := add(1, 1, 5, "f", 7), add(1, 1, 5, "f", -7), add(1, 1, 5, "f", 0)
	seen, key := add(1, 1, 5, "f", 3), add(1, 1, 5, "f", 9)
	seen.Deps, key.Op.Key = api.VV{7: 7, 1: 9}, "j"
	early, number, other := add(9, 9, 4, "f", 11), add(0, 9, 5, "f", 12), add(1, 1, 5, "g", 99)
	gone := made(api.ZRem, 1, 1, 5, "f", 13)
	for _, some := range [][]api.Event{{v, w}, {v, w, zero, seen, key, gone}, {early, w, number, v, other, gone}} {
		orders(some, func(l []api.Event) {
			first := slices.IndexFunc(l, func(e api.Event) bool {
				return e.Dot == dot(1, 1) && e.Op.Kind == api.ZAdd && e.Op.Field == "f"
			})
			isGet(t, "none is later", l, "f", l[first].Op.Num)
			if got := All(l); len(got) == 0 || got[0] != pair("f", l[first].Op.Num) {
				t.Errorf("none is later: All of %v: %v", l, got)
			}
		})
	}
}

// P15.1: nothing but the Kind, the Field, the time, the dot and the Num counts: not the key, nor what was seen, nor
// what a ZAdd event doesn't use.
func TestNothingElseCounts(t *testing.T) {
	changes := []func(e *api.Event){
		func(e *api.Event) { e.Op.Key = "j" },
		func(e *api.Event) { e.Op.Key = "" },
		func(e *api.Event) { e.Op.Key = strings.Repeat("k", 65) },
		func(e *api.Event) { e.Op.Value = "f" },
		func(e *api.Event) { e.Op.Value = strings.Repeat("9", 65) },
		func(e *api.Event) { e.Op.Ref = dot(6, 1) },
		func(e *api.Event) { e.Deps = api.VV{6: 9, 7: 9} },
		func(e *api.Event) { e.Deps = api.VV{-1, math.MinInt, math.MaxInt} },
	}
	for _, change := range changes {
		early, late := add(6, 1, 5, "f", 1), add(7, 1, 5, "f", 2)
		change(&early)
		orders([]api.Event{early, late}, func(l []api.Event) { isAll(t, "the earlier one changed", l, pair("f", 2)) })
		early = add(6, 1, 5, "f", 1)
		change(&late)
		orders([]api.Event{early, late}, func(l []api.Event) { isAll(t, "the later one changed", l, pair("f", 2)) })
		isAll(t, "changed, alone", []api.Event{late}, pair("f", 2))
		change(&early)
		orders([]api.Event{early, late}, func(l []api.Event) { isAll(t, "both changed", l, pair("f", 2)) })
	}
}

// P15.1: events of one Field with unlike Keys tell one member.
func TestUnlikeKeys(t *testing.T) {
	a, b, c := add(1, 1, 5, "f", 1), add(2, 1, 6, "f", 2), add(3, 1, 7, "g", 3)
	for _, keys := range [][3]string{{"k", "j", "k"}, {"j", "k", "i"}, {"f", "g", ""}, {"", "f", "f"}} {
		a.Op.Key, b.Op.Key, c.Op.Key = keys[0], keys[1], keys[2]
		orders([]api.Event{a, b, c}, func(l []api.Event) { isAll(t, "unlike Keys", l, pair("f", 2), pair("g", 3)) })
	}
}

// P15.1: of all kinds that there are, and of those there aren't, ZAdd alone tells a member, however late the others
// are: ZRem takes none away here, and a Field that only others have is none.
func TestOtherKinds(t *testing.T) {
	var others []api.Event
	for _, kind := range append([]int{1, 2, 3, 4, 5, 6, 8, 9, 10, 11}, noKinds()...) {
		e := made(kind, 9, 9, 9, "f", 99)
		e.Deps = api.VV{9, 9, 9, 9}
		isAll(t, "one of another kind", []api.Event{e})
		isNone(t, "one of another kind", []api.Event{e}, "f")
		orders([]api.Event{e, add(2, 1, 5, "f", 3), add(0, 1, 5, "e", 4)}, func(l []api.Event) {
			isAll(t, "beside one of another kind", l, pair("f", 3), pair("e", 4))
		})
		e.Dot, e.Time = dot(2, 1), 5
		orders([]api.Event{e, add(2, 1, 5, "f", 3)}, func(l []api.Event) { isAll(t, "with the same dot", l, pair("f", 3)) })
		others = append(others, made(kind, 9, 9, 9, "f", 8), made(kind, 2, 9, 0, "e", -8), made(kind, 2, 8, 9, "", 0))
	}
	isAll(t, "others", others)
	for _, s := range []string{"f", "e", "", "d"} {
		isNone(t, "others", others, s)
	}
	for at := range len(others) + 1 {
		l := slices.Insert(slices.Clone(others), at, add(3, 1, 5, "f", 3), add(1, 1, 5, "d", 4))
		l = append(l, add(2, 1, 5, "f", 9))
		isAll(t, "among others", l, pair("f", 3), pair("d", 4))
		isNone(t, "only others", l, "e")
		isNone(t, "only others", l, "")
	}
}

// P15.1, R1: a Field that is too long is told whole, as others are, and isn't held alike its beginning.
func TestLongFields(t *testing.T) {
	for _, n := range []int{63, 64, 65, 66, 255, 256, 257, 65536, 100000} {
		s := strings.Repeat("l", n)
		l := []api.Event{add(1, 2, 6, s+"b", 2), add(0, 1, 5, s, 9), add(1, 1, 5, s+"a", 2), add(2, 1, 5, s, 2)}
		isAll(t, "long", l, pair(s, 2), pair(s+"a", 2), pair(s+"b", 2))
		isNone(t, "one byte less", l, s[1:])
		isNone(t, "one byte more", l, s+"l")
	}
}

// P15.1, R1: events with times, dots or vectors that can't be, and of replicas that there aren't, tell members as
// others do; the least of all is told, not the zero event.
func TestEventsThatCantBe(t *testing.T) {
	least := add(math.MinInt, math.MinInt, math.MinInt, "f", -7)
	isAll(t, "the least alone", []api.Event{least}, pair("f", -7))
	for _, e := range []api.Event{
		add(0, 0, 0, "f", 7), add(-1, 1, 5, "f", 7), add(16, 1, 5, "f", 7), add(0, -1, 5, "f", 7), add(0, 1<<20+1, 5, "f", 7),
		add(1, 1, -1, "f", 7), add(1, 1, 1<<60, "f", 7), add(math.MaxInt, math.MaxInt, math.MaxInt, "f", 7),
		add(math.MinInt, math.MinInt, math.MinInt+1, "f", 7), add(1, 1, 5, "f", 1<<40+1), add(1, 1, 5, "f", math.MaxInt),
	} {
		for _, deps := range []api.VV{{}, {-1}, {15: math.MinInt}, {math.MaxInt, math.MaxInt}} {
			e.Deps = deps
			isAll(t, "alone", []api.Event{e}, pair("f", e.Op.Num))
			orders([]api.Event{e, least, add(3, 3, 3, "g", 2)}, func(l []api.Event) {
				isAll(t, "beside others", l, pair("g", 2), pair("f", e.Op.Num))
			})
		}
	}
}

// P15.1, R1: the zero event is none of ZAdd, so the empty text is no member by it.
func TestZeroEvent(t *testing.T) {
	isAll(t, "alone", []api.Event{{}})
	isAll(t, "among others", []api.Event{{}, add(0, 1, 0, "b", 1), {}, add(1, 1, 0, "a", 2)}, pair("b", 1), pair("a", 2))
	zero := api.Event{Op: api.Op{Kind: api.ZAdd}}
	isAll(t, "all else zero", []api.Event{zero}, pair("", 0))
	isAll(t, "all else zero, behind the zero event", []api.Event{{}, zero}, pair("", 0))
}
