package rga

import (
	"math"
	"testing"

	"polyphony/api"
)

// tree is a list that stands in the order a d c b e f: b, c and d hang on a, e on b, and f on e.
func tree() []api.Event {
	return []api.Event{node(1, "a", 0), node(2, "b", 1), node(3, "c", 1), node(4, "d", 1), node(5, "e", 2), node(6, "f", 5)}
}

// with is a list with more events behind it.
func with(l []api.Event, more ...api.Event) []api.Event {
	return append(l[:len(l):len(l)], more...)
}

// rem is an LRem event of replica 2 that takes a node of replica 1 away, and has seen all.
func rem(n, ref int) api.Event {
	return seeing(made(api.LRem, 2, n, 100+n, "", dot(1, ref)), all())
}

// del is a Del event of replica 2 that has seen so many of replica 1's.
func del(seen int) api.Event {
	return seeing(made(api.Del, 2, 1, 100, "", api.Dot{}), api.VV{1: seen})
}

// P16.1: what an LRem takes away is no item, but what hangs on it stands as it did; the order has it still.
func TestEndedByLRem(t *testing.T) {
	for _, c := range []struct {
		ref   int
		items string
	}{{1, "dcbef"}, {2, "adcef"}, {3, "adbef"}, {4, "acbef"}, {5, "adcbf"}, {6, "adcbe"}} {
		inEachOrder(t, "one", with(tree()[c.ref-1:c.ref], rem(1, c.ref)), tree()[c.ref-1].Op.Value, "")
		tells(t, "one behind", with(tree(), rem(1, c.ref)), "adcbef", c.items)
		tells(t, "one ahead", with([]api.Event{rem(1, c.ref)}, tree()...), "adcbef", c.items)
		tells(t, "one twice", with(tree(), rem(1, c.ref), rem(1, c.ref), rem(2, c.ref)), "adcbef", c.items)
	}
	tells(t, "several", with(tree(), rem(1, 1), rem(2, 2), rem(3, 5)), "adcbef", "dcf")
	tells(t, "all but the last", with(tree(), rem(1, 1), rem(2, 2), rem(3, 5), rem(4, 3), rem(5, 4)), "adcbef", "f")
	tells(t, "all", with(tree(), rem(1, 1), rem(2, 2), rem(3, 5), rem(4, 3), rem(5, 4), rem(6, 6)), "adcbef", "")
}

// P16.1: a Del takes away what its replica had seen, and no more.
func TestEndedByDel(t *testing.T) {
	for seen, items := range []string{"adcbef", "dcbef", "dcef", "def", "ef", "f", "", ""} {
		tells(t, "some", with(tree(), del(seen)), "adcbef", items)
		tells(t, "some, ahead", with([]api.Event{del(seen)}, tree()...), "adcbef", items)
	}
	tells(t, "a Del and an LRem", with(tree(), del(2), rem(1, 5)), "adcbef", "dcf")
}

// P16.1: how late what ends a node is plays no part.
func TestEndedByEarlier(t *testing.T) {
	for _, time := range []int{math.MinInt, -1, 0, 1, 2, math.MaxInt} {
		r, d := rem(1, 2), del(2)
		r.Time, d.Time = time, time
		tells(t, "LRem", with(tree(), r), "adcbef", "adcef")
		tells(t, "Del", with(tree(), d), "adcbef", "dcef")
	}
}

// P16.1: what seems to end a node, but doesn't cover it, has another key, another kind, or names another dot, ends nothing.
func TestNotEnded(t *testing.T) {
	for _, seen := range []api.VV{
		{}, {1: 1}, {0: top, 2: top}, {1: -1}, {1: math.MinInt}, {top, 1, top, top}, {0: math.MaxInt, 2: math.MaxInt, 15: math.MaxInt},
	} {
		tells(t, "LRem that hasn't seen it", with(tree(), seeing(rem(1, 2), seen)), "adcbef", "adcbef")
	}
	for _, seen := range []api.VV{{}, {top, 0, top}, {1: -1}, {1: math.MinInt}} {
		tells(t, "Del that hasn't seen it", with(tree(), seeing(del(0), seen)), "adcbef", "adcbef")
	}
	tells(t, "another key", with(tree(), keyed(rem(1, 2), "j"), keyed(rem(1, 2), ""), keyed(del(9), "j"), keyed(del(9), "")), "adcbef", "adcbef")
	for _, ref := range append(oddDots(), dot(1, 7), dot(2, 2), dot(0, 1)) {
		r := rem(1, 1)
		r.Op.Ref = ref
		tells(t, "another dot", with(tree(), r), "adcbef", "adcbef")
	}
	for _, kind := range append(noKinds(), 1, 2, 3, 4, 5, 6, 7, 8) {
		r := rem(1, 2)
		r.Op.Kind = kind
		tells(t, "another kind", with(tree(), r), "adcbef", "adcbef")
	}
	p := rem(1, 2)
	p.Op.Kind, p.Op.Value = api.Push, "p"
	tells(t, "a Push that has seen it", with(tree(), p), "adcbpef", "adcbpef")
}

// P16.1: whose vector can't be still covers what it has; a node whose dot can't be none covers.
func TestEndedThatCantBe(t *testing.T) {
	for _, n := range []int{2, 3, top, top + 1, math.MaxInt} {
		v := api.VV{0: math.MinInt, 1: n, 2: -1}
		tells(t, "LRem", with(tree(), seeing(rem(1, 2), v)), "adcbef", "adcef")
	}
	for _, d := range oddDots()[:len(oddDots())-1] {
		l := []api.Event{root(d.R, d.N, 5, "a"), root(3, 1, 4, "b")}
		r := seeing(made(api.LRem, 2, 2, 9, "", d), all())
		inEachOrder(t, "a dot that can't be", with(l, r, seeing(r, api.VV{math.MaxInt, math.MaxInt})), "ab", "ab")
		inEachOrder(t, "a dot that can't be, Del", with(l, seeing(del(0), all())), "ab", "a")
	}
}

// P16.1: nodes of one dot are ended together, whenever they were.
func TestOneDotEnded(t *testing.T) {
	l := []api.Event{root(1, 1, 5, "a"), root(1, 1, 5, "b"), root(1, 1, 7, "c"), root(1, 2, 6, "d")}
	tells(t, "none", l, "cdab", "cdab")
	tells(t, "one dot", with(l, rem(1, 1)), "cdab", "d")
	tells(t, "the other one", with(l, rem(1, 2)), "cdab", "cab")
}

// P16.1: an event of another kind, or of another key, that has an ended node's dot, and is live itself, brings nothing back.
func TestNotBroughtBack(t *testing.T) {
	for _, kind := range []int{1, 2, 3, 5, 7} {
		l := with(tree(), rem(1, 2), made(kind, 1, 2, 200, "o", api.Dot{}))
		tells(t, "of another kind", l, "adcbef", "adcef")
	}
	for _, key := range []string{"j", "", "kk"} {
		l := with(tree(), rem(1, 2), keyed(node(2, "o", 0), key))
		tells(t, "of another key", l, "adcbef", "adcef")
	}
}

// P16.1: what is live is told, be the key's type another one by something later.
func TestOtherType(t *testing.T) {
	for _, kind := range []int{1, 2, 3, 5, 7} {
		l := with(tree(), rem(1, 2), made(kind, 3, 1, 500, "o", api.Dot{}))
		tells(t, "another type", l, "adcbef", "adcef")
	}
}

// P16.1: what is pushed behind an ended node stands behind it, be it pushed ere or since.
func TestOnEnded(t *testing.T) {
	l := with(tree(), rem(1, 1), rem(2, 2))
	tells(t, "on ended ones", with(l, push(3, 1, 50, "x", dot(1, 2)), push(3, 2, 51, "y", dot(1, 1))), "aydcbxef", "ydcxef")
	// The one that ended a node is no node: who names its dot hangs on none.
	tells(t, "on what ended one", with(l, push(3, 1, 50, "x", dot(2, 1))), "xadcbef", "xdcef")
}

// P16.1, R2: each place of a list with ended nodes, and the edges.
func TestAnchor(t *testing.T) {
	l := with(tree(), rem(1, 1), rem(2, 3))
	for at, want := range []api.Dot{{}, dot(1, 4), dot(1, 2), dot(1, 5), dot(1, 6)} {
		isAnchor(t, "each place", l, "k", at, want)
	}
	for _, at := range []int{5, 6, 7, 100, 1 << 32, 1<<32 + 1, math.MaxInt - 1, math.MaxInt, -1, -2, -4, -1 << 32, 1 - 1<<32, math.MinInt + 1, math.MinInt} {
		noAnchor(t, "no place", l, "k", at)
	}
}

// P16.1, R2: of a key with no items only the place 0 is there, be it that there is nothing, or that all was ended.
func TestAnchorOfNoItems(t *testing.T) {
	for _, l := range [][]api.Event{nil, {}, with(tree(), del(9)), {keyed(node(1, "a", 0), "j")}, {made(api.Set, 1, 1, 1, "v", api.Dot{})}} {
		for _, key := range []string{"k", "nowhere"} {
			isAnchor(t, "no items", l, key, 0, api.Dot{})
			for _, at := range []int{1, 2, 6, -1, math.MinInt, math.MaxInt} {
				noAnchor(t, "no items", l, key, at)
			}
		}
	}
}
