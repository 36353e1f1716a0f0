package rga

import (
	"math"
	"slices"
	"strings"
	"testing"

	"polyphony/api"
)

// P16.1: the document's examples.
func TestExample(t *testing.T) {
	inEachOrder(t, "the chapter's", []api.Event{node(1, "a", 0), node(2, "b", 1), node(3, "c", 1)}, "acb", "acb")
	l := []api.Event{node(1, "a", 0), node(2, "b", 1), node(3, "c", 1), node(4, "d", 2), node(5, "e", 0)}
	inEachOrder(t, "with more", l, "eacbd", "eacbd")
}

// P16.1, R1, R4: of no events there are no nodes, be the list nil or empty; only the place 0 is there.
func TestNoEvents(t *testing.T) {
	for _, l := range [][]api.Event{nil, {}, make([]api.Event, 0, 9)} {
		for _, key := range []string{"", "k", strings.Repeat("l", 1000)} {
			isOrder(t, "no events", l, key, nil)
			isItems(t, "no events", l, key, nil)
		}
	}
}

// P16.1: one event is told whole if it is a Push, whatever it hangs on, and of its own key alone; of other kinds, and
// of numbers that are none, nothing is.
func TestOneEvent(t *testing.T) {
	for _, ref := range append(oddDots(), dot(1, 2), dot(2, 3)) {
		e := seeing(push(2, 3, 7, "v", ref), api.VV{4, 5, 2})
		isOrder(t, "one", []api.Event{e}, "k", []api.Event{e})
		isItems(t, "one", []api.Event{e}, "k", []api.Event{e})
		isOrder(t, "one, another key", []api.Event{e}, "j", nil)
		isItems(t, "one, another key", []api.Event{e}, "j", nil)
	}
	for _, kind := range append(noKinds(), 1, 2, 3, 4, 5, 6, 7, 8, 10, 11) {
		l := []api.Event{made(kind, 2, 3, 7, "v", dot(2, 2))}
		isOrder(t, "another kind", l, "k", nil)
		isItems(t, "another kind", l, "k", nil)
	}
}

// P16.1: each behind the one ahead of it.
func TestRow(t *testing.T) {
	inEachOrder(t, "a row", []api.Event{node(1, "a", 0), node(2, "b", 1), node(3, "c", 2), node(4, "d", 3), node(5, "e", 4)}, "abcde", "abcde")
	// By others, at times that go with no replica's number.
	l := []api.Event{root(5, 3, 1, "a"), push(0, 9, 2, "b", dot(5, 3)), push(9, 1, 3, "c", dot(0, 9)), push(5, 1, 4, "d", dot(9, 1))}
	inEachOrder(t, "a row of several", l, "abcd", "abcd")
}

// P16.1: of many that hang on one, or on none, the latest comes first.
func TestManyOnOne(t *testing.T) {
	inEachOrder(t, "on one", []api.Event{node(1, "a", 0), node(2, "b", 1), node(3, "c", 1), node(4, "d", 1), node(5, "e", 1)}, "aedcb", "aedcb")
	inEachOrder(t, "on none", []api.Event{node(1, "a", 0), node(2, "b", 0), node(3, "c", 0), node(4, "d", 0), node(5, "e", 0)}, "edcba", "edcba")
}

// P16.1: trees of rows and of many on one: each with all that hangs on it, ahead of the next one.
func TestTrees(t *testing.T) {
	inEachOrder(t, "two rows", []api.Event{node(1, "a", 0), node(2, "b", 0), node(3, "c", 1), node(4, "d", 2), node(5, "e", 3), node(6, "f", 4)}, "bdface", "bdface")
	inEachOrder(t, "rows on one", []api.Event{node(1, "a", 0), node(2, "b", 1), node(3, "c", 1), node(4, "d", 2), node(5, "e", 3), node(6, "f", 1)}, "afcebd", "afcebd")
	l := []api.Event{
		node(1, "a", 0), node(2, "b", 1), node(3, "c", 1), node(4, "d", 2), node(5, "e", 2), node(6, "f", 3), node(7, "g", 3),
		node(8, "h", 0), node(9, "i", 8), node(10, "j", 1), node(11, "l", 4), node(12, "m", 9), node(13, "n", 9), node(14, "o", 0),
	}
	for seed := range 200 {
		s := dice(seed)
		tells(t, "a tree", s.mixed(l), "ohinmajcgfbedl", "ohinmajcgfbedl")
	}
}

// P16.1: how late those are that hang on a node plays no part for where it stands.
func TestLateOnEarly(t *testing.T) {
	inEachOrder(t, "the latest on the earliest", []api.Event{node(1, "a", 0), node(2, "b", 0), node(9, "c", 1)}, "bac", "bac")
	inEachOrder(t, "on one", []api.Event{node(1, "a", 0), node(2, "b", 1), node(3, "c", 1), node(9, "d", 2)}, "acbd", "acbd")
}

// P16.1: at one time the greater replica's number is later, then the greater number of its own; but time is first.
func TestOneTime(t *testing.T) {
	inEachOrder(t, "unlike replicas", []api.Event{root(1, 9, 5, "a"), root(2, 1, 5, "b"), root(0, 20, 5, "c")}, "bac", "bac")
	inEachOrder(t, "one replica", []api.Event{root(1, 9, 5, "a"), root(1, 10, 5, "b"), root(1, 2, 5, "c")}, "bac", "bac")
	inEachOrder(t, "time first", []api.Event{root(1, 9, 5, "a"), root(15, 10, 4, "b"), root(0, 1, 6, "c")}, "cab", "cab")
	on := dot(3, 3)
	inEachOrder(t, "on one", []api.Event{root(3, 3, 5, "x"), push(4, 1, 5, "a", on), push(4, 2, 5, "b", on), push(5, 1, 5, "c", on)}, "xcba", "xcba")
}

// P16.1: of those of one dot and time the order in l counts; what hangs on their dot hangs on the first one.
func TestOneDotAndTime(t *testing.T) {
	a, b, c := root(1, 1, 5, "a"), root(1, 1, 5, "b"), root(1, 1, 5, "c")
	orders([]api.Event{a, b, c}, func(l []api.Event) { tells(t, "on none", l, values(l), values(l)) })
	x := push(2, 1, 6, "x", dot(1, 1))
	tells(t, "with one behind", []api.Event{a, b, c, x}, "axbc", "axbc")
	tells(t, "with one ahead", []api.Event{x, c, a, b}, "cxab", "cxab")
	tells(t, "with one between", []api.Event{b, x, a, c}, "bxac", "bxac")
	for _, other := range []int{4, 5} {
		on := root(0, 1, other, "o")
		d, e := push(1, 1, 6, "d", on.Dot), push(1, 1, 6, "e", on.Dot)
		tells(t, "on one", []api.Event{on, d, e}, "ode", "ode")
		tells(t, "on one, turned", []api.Event{e, d, on}, "oed", "oed")
	}
	// Twenty, among which are others: more than a sort that isn't stable leaves as they are.
	var l []api.Event
	for i := range 60 {
		l = append(l, root(1, 1, 5, string(rune('a'+i%20))), root(2, 1, 4+i%3, "-"))
	}
	asTold(t, "many of one dot and time", l)
}

// P16.1: a Ref that is nobody's dot, or the dot of an event of another key or another kind, hangs on none.
func TestRefOfNoNode(t *testing.T) {
	for _, ref := range append(oddDots(), dot(2, 1), dot(1, 3), dot(3, 1), dot(0, 2)) {
		l := []api.Event{node(1, "a", 0), push(1, 2, 2, "b", ref), node(4, "c", 1)}
		inEachOrder(t, "nobody's", l, "bac", "bac")
	}
	b := push(1, 2, 5, "b", dot(2, 1))
	inEachOrder(t, "another key's", []api.Event{node(1, "a", 0), b, keyed(root(2, 1, 1, "o"), "j")}, "ba", "ba")
	inEachOrder(t, "the empty key's", []api.Event{node(1, "a", 0), b, keyed(root(2, 1, 1, "o"), "")}, "ba", "ba")
	for _, kind := range append(noKinds(), 1, 2, 3, 4, 5, 6, 7, 8, 10, 11) {
		inEachOrder(t, "another kind's", []api.Event{node(1, "a", 0), b, made(kind, 2, 1, 1, "o", api.Dot{})}, "ba", "ba")
		l := []api.Event{made(kind, 2, 1, 1, "o", api.Dot{}), root(2, 1, 2, "p"), root(3, 3, 3, "q"), b}
		tells(t, "another kind's ahead of a node's", l, "qpb", "qpb")
	}
}

// P16.1: a zero Ref hangs on none, even if a node's dot is zero; of a Ref of which one number is 0 that isn't so.
func TestZeroRef(t *testing.T) {
	zero := root(0, 0, 1, "z")
	inEachOrder(t, "a node with the zero dot", []api.Event{zero, root(1, 1, 2, "a"), root(1, 2, 3, "b")}, "baz", "baz")
	inEachOrder(t, "alone", []api.Event{root(0, 0, 1, "z"), root(0, 0, 2, "y")}, "yz", "yz")
	for _, d := range []api.Dot{dot(0, 1), dot(1, 0)} {
		l := []api.Event{root(d.R, d.N, 1, "a"), root(3, 3, 2, "b"), push(1, 2, 3, "c", d)}
		inEachOrder(t, "one number 0", l, "bac", "bac")
	}
}

// P16.1: who is not later than the one it names hangs on none: than itself, than one at a later time, or at its own
// time by a greater replica's number or a greater number. X stands between the two in time, and so tells them apart
// where the one doesn't hang on the other.
func TestNotLater(t *testing.T) {
	inEachOrder(t, "its own dot", []api.Event{push(1, 1, 1, "a", dot(1, 1)), node(2, "b", 1), root(1, 3, 3, "c")}, "cab", "cab")
	for _, c := range []struct {
		what string
		p, x api.Event
		want string
	}{
		{"one at a later time", root(0, 1, 7, "p"), root(0, 2, 6, "x"), "pxe"},
		{"its own dot at a later time", root(3, 3, 7, "p"), root(0, 1, 6, "x"), "pxe"},
		{"a greater replica", root(5, 1, 5, "p"), root(4, 1, 5, "x"), "pxe"},
		{"a greater number", root(3, 5, 5, "p"), root(3, 4, 5, "x"), "pxe"},
		{"one at an earlier time", root(9, 9, 3, "p"), root(9, 8, 4, "x"), "xpe"},
		{"its own dot at an earlier time", root(3, 3, 3, "p"), root(9, 9, 4, "x"), "xpe"},
		{"a smaller replica", root(1, 9, 5, "p"), root(2, 9, 5, "x"), "xpe"},
		{"a smaller number", root(3, 1, 5, "p"), root(3, 2, 5, "x"), "xpe"},
	} {
		inEachOrder(t, c.what, []api.Event{c.p, c.x, push(3, 3, 5, "e", c.p.Dot)}, c.want, c.want)
	}
}

// P16.1: of several nodes with the dot that is named the first in l counts than which the other one is later.
func TestRefOfSeveral(t *testing.T) {
	at := func(time int, value string) api.Event { return root(1, 1, time, value) }
	x := push(2, 2, 9, "x", dot(1, 1))
	for _, c := range []struct {
		l    []api.Event
		want string
	}{
		{[]api.Event{at(5, "a"), at(3, "b"), x}, "axb"},
		{[]api.Event{at(3, "b"), at(5, "a"), x}, "abx"},
		{[]api.Event{at(10, "a"), at(3, "b"), x}, "abx"},
		{[]api.Event{at(10, "a"), at(3, "b"), at(5, "c"), x}, "acbx"},
		{[]api.Event{at(10, "a"), at(5, "b"), at(3, "c"), x}, "abxc"},
		{[]api.Event{at(10, "a"), at(11, "b"), x}, "bax"},
		{[]api.Event{at(11, "a"), at(10, "b"), at(9, "c"), at(4, "d"), x}, "abcxd"},
		{[]api.Event{at(10, "a"), at(4, "b"), at(12, "c"), at(3, "d"), x}, "cabxd"},
		{[]api.Event{at(5, "a"), at(5, "b"), x}, "axb"},
		{[]api.Event{keyed(at(5, "o"), "j"), made(api.Set, 1, 1, 5, "o", api.Dot{}), at(4, "a"), at(6, "b"), x}, "bax"},
	} {
		tells(t, "several", c.l, c.want, c.want)
		n := len(c.l) - 1
		tells(t, "several, it ahead of them", slices.Concat(c.l[n:], c.l[:n]), c.want, c.want)
	}
	// Each of these hangs on another one of the same dot.
	l := []api.Event{at(9, "a"), at(7, "b"), at(5, "c"), at(3, "d")}
	for i, time := range []int{10, 8, 6, 4, 2} {
		l = append(l, push(2, 2, time, string(rune('v'+i)), dot(1, 1)))
	}
	tells(t, "each on another one", l, "avbwcxdyz", "avbwcxdyz")
	tells(t, "its own dot, had by an earlier one", []api.Event{at(3, "a"), push(1, 1, 5, "b", dot(1, 1)), at(4, "c")}, "cab", "cab")
}

// P16.1: of several keys each has its own nodes, even if their dots are the same; so has the empty key.
func TestKeys(t *testing.T) {
	names := []string{"", "k", "j", "kk", "K", "k\x00", "\xff", strings.Repeat("k", 64), strings.Repeat("k", 65)}
	var l []api.Event
	for _, key := range names {
		l = append(l, keyed(node(1, "a", 0), key), keyed(node(2, "b", 1), key), keyed(node(3, "c", 1), key))
	}
	for i, key := range names {
		want := []api.Event{l[3*i], l[3*i+2], l[3*i+1]}
		isOrder(t, "of several keys", l, key, want)
		isItems(t, "of several keys", l, key, want)
	}
	isOrder(t, "none of them", l, "kkk", nil)
	isItems(t, "none of them", l, "kkk", nil)
	asTold(t, "of several keys", l)
}

// P16.1: what names the dot of another key's node stands in its own key's list alone, be one of the keys empty.
func TestEmptyKey(t *testing.T) {
	l := []api.Event{keyed(node(1, "a", 0), ""), node(2, "b", 1), keyed(node(3, "c", 1), ""), keyed(node(4, "d", 2), "")}
	if got := values(Order(l, "")); got != "dac" {
		t.Errorf("Order of the empty key: %q", got)
	}
	tells(t, "beside the empty key", l, "b", "b")
}

// P16.1: among events of other kinds and keys nodes stand as they would alone.
func TestAmongOthers(t *testing.T) {
	l := []api.Event{node(1, "a", 0), node(2, "b", 1), node(3, "c", 1), node(4, "d", 0), node(5, "e", 2)}
	var others []api.Event
	for i, kind := range append(noKinds(), 1, 2, 3, 4, 5, 6, 7, 8, 10, 11) {
		others = append(others, made(kind, 1, 1+i%5, i, "o", dot(1, 1+i%4)), keyed(push(1, 1+i%5, i, "o", dot(1, 1+i%4)), "j"))
	}
	tells(t, "others alone", others, "", "")
	for seed := range 200 {
		s := dice(seed)
		tells(t, "among others", s.mixed(slices.Concat(l, others)), "dacbe", "dacbe")
	}
}

// P16.1, R1: events with times, dots, Refs or vectors that can't be, and of replicas that there aren't, stand as others do.
func TestEventsThatCantBe(t *testing.T) {
	for _, d := range oddDots() {
		if d == (api.Dot{}) {
			continue // A Ref to it is a zero one: that has a test of its own.
		}
		for _, time := range []int{math.MinInt, -1, 0, 1<<60 - 1, 1 << 60, math.MaxInt - 9} {
			a, b := push(d.R, d.N, time, "a", dot(-5, -5)), root(2, 2, time+1, "b")
			c, e := push(3, 3, time+2, "c", d), push(-3, -3, time+3, "e", d)
			for _, deps := range []api.VV{{}, {-1}, {15: math.MinInt}, {math.MaxInt, math.MaxInt}} {
				inEachOrder(t, "can't be", []api.Event{seeing(a, deps), b, seeing(c, deps), e}, "baec", "baec")
			}
		}
	}
	tells(t, "the least and the greatest", []api.Event{
		root(math.MinInt, math.MinInt, math.MinInt, "a"), root(math.MaxInt, math.MaxInt, math.MaxInt, "b"),
		push(0, 0, 0, "c", dot(math.MinInt, math.MinInt)), push(1, 1, 1, "d", dot(math.MaxInt, math.MaxInt)),
	}, "bdac", "bdac")
}

// P16.1, R1: texts that are too long are told whole, and hold nobody alike; what a Push doesn't use plays no part.
func TestLongTexts(t *testing.T) {
	long := strings.Repeat("l", 100000)
	a, b, c := keyed(node(1, long, 0), long), keyed(node(2, "b", 1), long), keyed(node(3, "c", 1), long[1:])
	a.Op.Field, b.Op.Num = long, math.MaxInt
	isOrder(t, "long", []api.Event{c, b, a}, long, []api.Event{a, b})
	isItems(t, "long", []api.Event{c, b, a}, long, []api.Event{a, b})
	isOrder(t, "one byte less", []api.Event{c, b, a}, long[1:], []api.Event{c})
}

// P16.1, R1: Refs that point in a circle: the earliest hangs on none, so that each is told once.
func TestCircles(t *testing.T) {
	inEachOrder(t, "of one", []api.Event{node(1, "a", 1)}, "a", "a")
	inEachOrder(t, "of two", []api.Event{node(1, "a", 2), node(2, "b", 1)}, "ab", "ab")
	inEachOrder(t, "of three", []api.Event{node(1, "a", 2), node(2, "b", 3), node(3, "c", 1)}, "bac", "bac")
	inEachOrder(t, "of three, turned", []api.Event{node(1, "a", 3), node(2, "b", 1), node(3, "c", 2)}, "abc", "abc")
	inEachOrder(t, "of two at one time", []api.Event{push(1, 1, 5, "a", dot(2, 1)), push(2, 1, 5, "b", dot(1, 1))}, "ab", "ab")
	inEachOrder(t, "with one behind", []api.Event{node(1, "a", 2), node(2, "b", 1), node(3, "c", 1), node(4, "d", 2)}, "acbd", "acbd")
	// Two have the dot 1 1 at unlike times: what hangs on the one has what hangs on the other above it.
	tells(t, "through one dot", []api.Event{push(1, 1, 9, "c", dot(2, 1)), root(1, 1, 3, "a"), push(2, 1, 5, "b", dot(1, 1))}, "abc", "abc")
	var l []api.Event
	for n := range 200 {
		l = append(l, node(n+1, "v", (n+1)%200+1))
	}
	asTold(t, "of many", l)
	if n := len(Order(l, "k")); n != 200 {
		t.Errorf("of 200 in a circle %d are told", n)
	}
}

// P16.1, R1: the same event twice is two nodes, one behind the other, but for what hangs on the first one.
func TestTwice(t *testing.T) {
	a, b, c := node(1, "a", 0), node(2, "b", 1), node(3, "c", 2)
	inEachOrder(t, "one twice", []api.Event{a, a}, "aa", "aa")
	inEachOrder(t, "with one that hangs there", []api.Event{a, a, b}, "aba", "aba")
	inEachOrder(t, "what hangs there twice", []api.Event{a, b, b}, "abb", "abb")
	inEachOrder(t, "all twice", []api.Event{a, a, b, b, c, c}, "abccba", "abccba")
}

// P16.1, R1: the zero event is no Push, and one of which all else is zero is a node of the empty key.
func TestZeroEvent(t *testing.T) {
	zero := api.Event{Op: api.Op{Kind: api.Push}}
	l := []api.Event{{}, node(1, "a", 0), {}, zero}
	tells(t, "zero", l, "a", "a")
	isOrder(t, "the empty key", l, "", []api.Event{zero})
	isItems(t, "the empty key", l, "", []api.Event{zero})
	isAnchor(t, "behind the zero dot", l, "", 1, api.Dot{})
}
