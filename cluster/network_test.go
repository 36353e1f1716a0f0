package cluster

import (
	"slices"
	"testing"

	"polyphony/api"
)

// told is three nodes, of which the first one has as many events fast.
func told(t *testing.T, events int) *Cluster {
	t.Helper()
	c := made(t, 3, topFile)
	for range events {
		asks(t, c, 0, "SET k v", "+OK|")
	}
	does(t, c, Step{Kind: Fsync}, Answer{})
	return c
}

// P24.2, P24.3: what is sent comes behind the others; a message of any number is taken out, and all others stay in order.
func TestOrder(t *testing.T) {
	c := told(t, 3)
	for at := range 3 {
		does(t, c, Step{Kind: Ask, Node: at}, Answer{N: 2})
	}
	isUnderWay(t, c, "ab? ac? ba? bc? ca? cb?")
	does(t, c, Step{Kind: Drop, N: 3}, Answer{})
	isUnderWay(t, c, "ab? ac? ba? ca? cb?")
	does(t, c, Step{Kind: Deliver, N: 2}, Answer{N: 1})
	isUnderWay(t, c, "ab? ac? ca? cb? ab3")
	does(t, c, Step{Kind: Drop}, Answer{})
	isUnderWay(t, c, "ac? ca? cb? ab3")
	does(t, c, Step{Kind: Double, N: 1}, Answer{})
	isUnderWay(t, c, "ac? ca? cb? ab3 ca?")
	does(t, c, Step{Kind: Deliver, N: 3}, Answer{})
	saw(t, c, 1, vv(0, 3), api.VV{})
	isUnderWay(t, c, "ac? ca? cb? ca?")
	does(t, c, Step{Kind: Deliver, N: 2}, Answer{N: 1})
	isUnderWay(t, c, "ac? ca? ca? bc0")
	does(t, c, Step{Kind: Drop, N: 3}, Answer{})
	does(t, c, Step{Kind: Deliver, N: 2}, Answer{N: 1})
	does(t, c, Step{Kind: Deliver, N: 1}, Answer{N: 1})
	isUnderWay(t, c, "ac? ac3 ac3")
	does(t, c, Step{Kind: Deliver, N: 2}, Answer{})
	does(t, c, Step{Kind: Deliver, N: 1}, Answer{})
	saw(t, c, 2, vv(0, 3), api.VV{})
	does(t, c, Step{Kind: Deliver}, Answer{N: 1})
	isUnderWay(t, c, "ca0")
	does(t, c, Step{Kind: Deliver}, Answer{})
	flies(t, c, 0)
}

// The document's eighth example of the whole: seventeen events come as eight, eight, and one.
func TestBatches(t *testing.T) {
	c := told(t, 17)
	for _, has := range []int{8, 16, 17, 17} {
		does(t, c, Step{Kind: Ask, Node: 2}, Answer{N: 2})
		does(t, c, Step{Kind: Deliver}, Answer{N: 1})
		does(t, c, Step{Kind: Drop}, Answer{})
		does(t, c, Step{Kind: Deliver}, Answer{})
		does(t, c, Step{Kind: Fsync, Node: 2}, Answer{})
		saw(t, c, 2, vv(0, has), vv(0, has))
		flies(t, c, 0)
	}
}

// P24.3: a node that is down answers nothing, and takes nothing in; the message is gone all the same.
func TestToOneThatIsDown(t *testing.T) {
	c := told(t, 2)
	does(t, c, Step{Kind: Ask, Node: 1}, Answer{N: 2})
	does(t, c, Step{Kind: Crash, Node: 2}, Answer{})
	does(t, c, Step{Kind: Deliver, N: 1}, Answer{})
	isUnderWay(t, c, "ba?")
	does(t, c, Step{Kind: Deliver}, Answer{N: 1})
	does(t, c, Step{Kind: Crash, Node: 1}, Answer{})
	does(t, c, Step{Kind: Double}, Answer{})
	does(t, c, Step{Kind: Deliver}, Answer{})
	does(t, c, Step{Kind: Start, Node: 1}, Answer{})
	saw(t, c, 1, api.VV{}, api.VV{})
	does(t, c, Step{Kind: Deliver}, Answer{})
	saw(t, c, 1, vv(0, 2), api.VV{})
	flies(t, c, 0)
}

// P24.3: a message stays under way while the one that sent it is down, and tells what it told.
func TestFromOneThatIsDown(t *testing.T) {
	c := told(t, 2)
	does(t, c, Step{Kind: Ask}, Answer{N: 2})
	does(t, c, Step{Kind: Ask, Node: 1}, Answer{N: 2})
	does(t, c, Step{Kind: Deliver, N: 2}, Answer{N: 1})
	before := underWay(c)
	asks(t, c, 0, "SET k w", "+OK|")
	does(t, c, Step{Kind: Fsync}, Answer{})
	does(t, c, Step{Kind: Crash}, Answer{})
	if behind := underWay(c); !slices.EqualFunc(before, behind, sameMsg) {
		t.Fatalf("under way:\n%v\nand behind a crash\n%v", before, behind)
	}
	isUnderWay(t, c, "ab? ac? bc? ab2")
	does(t, c, Step{Kind: Deliver, N: 3}, Answer{})
	saw(t, c, 1, vv(0, 2), api.VV{})
}

// P24.2, P24.3: what is sent where there is no room is lost; how many were told it is told all the same.
func TestLost(t *testing.T) {
	c := told(t, 3)
	for range Flying/2 - 1 {
		does(t, c, Step{Kind: Ask, Node: 1}, Answer{N: 2})
	}
	does(t, c, Step{Kind: Drop, N: 17}, Answer{})
	flies(t, c, Flying-3)
	does(t, c, Step{Kind: Ask, Node: 2}, Answer{N: 2})
	flies(t, c, Flying-1)
	// The second one is lost.
	does(t, c, Step{Kind: Ask}, Answer{N: 2})
	flies(t, c, Flying)
	before := underWay(c)
	if m := before[Flying-1]; m.From != 0 || m.To != 1 {
		t.Fatalf("the last one is %v", m)
	}
	does(t, c, Step{Kind: Ask}, Answer{N: 2})
	does(t, c, Step{Kind: Double, N: 0}, Answer{})
	does(t, c, Step{Kind: Double, N: Flying - 1}, Answer{})
	does(t, c, Step{Kind: Double, N: Flying}, Answer{Err: api.ErrNone})
	if behind := underWay(c); !slices.EqualFunc(before, behind, sameMsg) {
		t.Fatal("what was sent where there was no room has changed the others")
	}
	// What is taken out leaves room for the answer.
	does(t, c, Step{Kind: Deliver}, Answer{N: 1})
	flies(t, c, Flying)
	want := append(slices.Clone(before[1:]), underWay(c)[Flying-1])
	if m := want[Flying-1]; m.From != 0 || m.To != 1 || len(m.Events) != 3 {
		t.Fatalf("the answer is %v", m)
	}
	if behind := underWay(c); !slices.EqualFunc(want, behind, sameMsg) {
		t.Fatal("what is under way isn't what was, and the answer")
	}
	does(t, c, Step{Kind: Deliver, N: Flying - 1}, Answer{})
	flies(t, c, Flying-1)
	saw(t, c, 1, vv(0, 3), api.VV{})
	for range Flying - 1 {
		does(t, c, Step{Kind: Drop, N: c.InFlight() / 2}, Answer{})
	}
	flies(t, c, 0)
}

// P24.3, Ways: a message that is sent twice comes twice; the two share no list.
func TestDouble(t *testing.T) {
	c := told(t, 5)
	does(t, c, Step{Kind: Ask, Node: 1}, Answer{N: 2})
	does(t, c, Step{Kind: Deliver}, Answer{N: 1})
	does(t, c, Step{Kind: Double, N: 1}, Answer{})
	does(t, c, Step{Kind: Double, N: 2}, Answer{})
	l := underWay(c)
	if len(l) != 4 || len(l[1].Events) != 5 || !sameMsg(l[1], l[2]) || !sameMsg(l[1], l[3]) {
		t.Fatalf("under way: %v", l)
	}
	for i := range 5 {
		if &l[1].Events[i] == &l[2].Events[i] || &l[1].Events[i] == &l[3].Events[i] || &l[2].Events[i] == &l[3].Events[i] {
			t.Fatal("two messages share a list")
		}
	}
	for range 3 {
		does(t, c, Step{Kind: Deliver, N: 1}, Answer{})
		saw(t, c, 1, vv(0, 5), api.VV{})
	}
	// A question that comes twice is answered twice.
	does(t, c, Step{Kind: Double}, Answer{})
	does(t, c, Step{Kind: Deliver}, Answer{N: 1})
	does(t, c, Step{Kind: Deliver}, Answer{N: 1})
	isUnderWay(t, c, "cb0 cb0")
}

// P24.3: what stands behind an answer's events in memory is nobody's.
func TestEachHasItsOwn(t *testing.T) {
	c := told(t, 5)
	for at := 1; at < 3; at++ {
		does(t, c, Step{Kind: Ask, Node: at}, Answer{N: 2})
	}
	does(t, c, Step{Kind: Deliver}, Answer{N: 1})
	does(t, c, Step{Kind: Deliver, N: 1}, Answer{N: 1})
	isUnderWay(t, c, "bc? cb? ab5 ac5")
	l := underWay(c)
	for i := range 5 {
		l[2].Events[i] = api.Event{}
	}
	does(t, c, Step{Kind: Deliver, N: 3}, Answer{})
	saw(t, c, 2, vv(0, 5), api.VV{})
}
