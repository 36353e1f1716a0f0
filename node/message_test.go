package node

import (
	"math"
	"slices"
	"testing"

	"polyphony/api"
)

// P23.3: Sync lets all that was seen be fast, of whomever it is, and nothing else does.
func TestSync(t *testing.T) {
	n := made(t, 1, 3, topFile)
	n.Sync()
	saw(t, n, api.VV{}, api.VV{})
	asks(t, n, "SET k v", "+OK|")
	lets(t, n, 0, row(0, 2)...)
	saw(t, n, vv(0, 2, 1, 1), api.VV{})
	n.Ask()
	n.Collect()
	asks(t, n, "KEYS", "*1|$1|k|")
	saw(t, n, vv(0, 2, 1, 1), api.VV{})
	n.Sync()
	saw(t, n, vv(0, 2, 1, 1), vv(0, 2, 1, 1))
	asks(t, n, "SET k w", "+OK|")
	saw(t, n, vv(0, 2, 1, 2), vv(0, 2, 1, 1))
	again(t, n, 0, 0, 0)
	saw(t, n, vv(0, 2, 1, 1), vv(0, 2, 1, 1))
}

// P23.3: Ask is a message to each other replica, by numbers, that tells what is fast.
func TestAsk(t *testing.T) {
	for replicas := 1; replicas <= 16; replicas++ {
		for self := range replicas {
			n := made(t, self, replicas, topFile)
			var fast api.VV
			for range 2 {
				var want []Msg
				for to := range replicas {
					if to != self {
						want = append(want, Msg{From: self, To: to, Ask: true, Seen: fast})
					}
				}
				if got := n.Ask(); !slices.EqualFunc(got, want, sameMsg) {
					t.Fatalf("%d of %d asks\n%v\nwant\n%v", self, replicas, got, want)
				}
				asks(t, n, "SET k v", "+OK|")
				n.Sync()
				asks(t, n, "SET k w", "+OK|")
				fast = vv(self, 1)
			}
		}
	}
}

// P23.3: a message that isn't to this one, or from no other one, or that tells what can't be, is nothing: neither its
// events count nor what it tells of its replica.
func TestNotMeant(t *testing.T) {
	n := made(t, 1, 3, topFile)
	asks(t, n, "SET k v", "+OK|")
	n.Sync()
	lone := row(0, 1)
	for _, number := range []int{math.MinInt, -1, 0, 2, 3, 16, math.MaxInt} {
		for _, ask := range []bool{true, false} {
			takes(t, n, Msg{From: 0, To: number, Ask: ask, Seen: vv(1, 1), Events: lone})
			takes(t, n, Msg{From: 2, To: number, Ask: ask, Seen: vv(1, 1), Events: lone})
		}
	}
	for _, number := range []int{math.MinInt, -1, 1, 3, 4, 15, 16, math.MaxInt} {
		for _, ask := range []bool{true, false} {
			takes(t, n, Msg{From: number, To: 1, Ask: ask, Seen: vv(1, 1), Events: lone})
		}
	}
	for _, wrong := range []int{math.MinInt, -1, topSeq + 1, math.MaxInt} {
		for r := range 16 {
			for _, from := range []int{0, 2} {
				seen := vv(1, 1)
				seen[r] = wrong
				takes(t, n, Msg{From: from, To: 1, Ask: true, Seen: seen, Events: lone})
				takes(t, n, Msg{From: from, To: 1, Seen: seen, Events: lone})
			}
		}
	}
	saw(t, n, vv(1, 1), vv(1, 1))
	collects(t, n, 0, 0)
	// What they told would have been taken in of these.
	takes(t, n, Msg{From: 0, To: 1, Seen: vv(1, 1)})
	takes(t, n, Msg{From: 2, To: 1, Seen: vv(1, 1, 15, topSeq)})
	collects(t, n, 1, 0)
	lets(t, n, 2, lone...)
	saw(t, n, vv(0, 1, 1, 1), vv(1, 1))
}

// P23.3: the events of a message are seen each once, each behind what it has seen; the others wait, or are dropped.
func TestEventsCome(t *testing.T) {
	n := made(t, 0, 3, topFile)
	a := ev(1, 1, 5, api.VV{}, set("k", "a"))
	b := ev(1, 2, 6, vv(2, 1), set("k", "b"))
	c := ev(2, 1, 7, vv(1, 1), set("k", "c"))
	d := ev(2, 2, 8, vv(0, 1), set("k", "d"))
	wrong := ev(1, 1, 5, api.VV{}, set("", "a"))
	lets(t, n, 1, b, b, wrong, c)
	saw(t, n, api.VV{}, api.VV{})
	lets(t, n, 2, d, a, a, c)
	saw(t, n, vv(1, 2, 2, 1), api.VV{})
	keeps(t, n, 3, 0)
	asks(t, n, "GET k", "$1|b|")
	// d had seen this one's first event, which is made only now, and comes out with the next message.
	asks(t, n, "SET l v", "+OK|")
	asks(t, n, "GET k", "$1|b|")
	lets(t, n, 1, wrong)
	saw(t, n, vv(0, 1, 1, 2, 2, 2), api.VV{})
	asks(t, n, "GET k", "$1|d|")
	own := ev(0, 1, 5*65536, vv(1, 2, 2, 1), set("l", "v"))
	tells(t, n, a, c, b, own, d)
}

// P23.3: a message without events lets none be seen that wait, though they may be by now; and each is offered what was
// seen just then.
func TestOfferedAlone(t *testing.T) {
	n := made(t, 0, 2, topFile)
	lets(t, n, 1, ev(1, 1, 5, vv(0, 1), set("k", "a")))
	asks(t, n, "SET l v", "+OK|")
	lets(t, n, 1)
	has(t, n, 1, api.VV{})
	saw(t, n, vv(0, 1), api.VV{})
	lets(t, n, 1, api.Event{})
	saw(t, n, vv(0, 1, 1, 1), api.VV{})
	lets(t, n, 1, ev(1, 2, 5, api.VV{}, set("k", "b")), ev(1, 3, 5, vv(0, 1), set("k", "c")))
	saw(t, n, vv(0, 1, 1, 3), api.VV{})
}

// P23.3: what is seen of others the clock sees, and nothing that only waits.
func TestClockSees(t *testing.T) {
	n := made(t, 0, 2, topFile)
	lets(t, n, 1, ev(1, 2, 9<<20, api.VV{}, set("k", "w")))
	does(t, n, 1, "SET l v", "+OK|")
	lets(t, n, 1, ev(1, 1, 7<<20, api.VV{}, set("k", "v")))
	does(t, n, 1, "SET l w", "+OK|")
	n.Sync()
	l := has(t, n, 1, vv(1, 2)).Events
	if len(l) != 2 || l[0].Time != 65536 || l[1].Time != 9<<20+1 {
		t.Fatalf("told %v", l)
	}
}

// P23.3: where the log has no room for one the others that came out with it are let go; those that stand behind in the
// message are offered all the same, and it is answered.
func TestNoRoom(t *testing.T) {
	a := ev(1, 1, 50<<16, api.VV{}, set("a", "v"))
	b := ev(2, 1, 90<<16, vv(1, 1), set(many(64, "b"), many(64, "v")))
	c := ev(3, 1, 70<<16, vv(1, 1), set("c", "v"))
	d := ev(4, 1, 40<<16, api.VV{}, set("d", "v"))
	n := made(t, 0, 6, sizes(a, b)-1)
	if sizes(c, d) >= size(b) {
		t.Fatal("the small ones take as much room as the great one: this tests nothing")
	}
	takes(t, n, Msg{From: 1, To: 0, Ask: true, Events: []api.Event{b, c, a, d}}, Msg{From: 0, To: 1})
	saw(t, n, vv(1, 1, 4, 1), api.VV{})
	keeps(t, n, 2, 0)
	asks(t, n, "KEYS", "*2|$1|a|$1|d|")
	// Neither of them waits any more.
	lets(t, n, 1, a, api.Event{})
	saw(t, n, vv(1, 1, 4, 1), api.VV{})
	lets(t, n, 2, c)
	saw(t, n, vv(1, 1, 3, 1, 4, 1), api.VV{})
	lets(t, n, 2, b, b, b)
	saw(t, n, vv(1, 1, 3, 1, 4, 1), api.VV{})
	asks(t, n, "KEYS", "*3|$1|a|$1|c|$1|d|")
	// Nor has the clock seen the one that had no room.
	does(t, n, 1, "DEL a", ":1|")
	tells(t, n, a, d, c, ev(0, 1, 70<<16+1, vv(1, 1, 3, 1, 4, 1), api.Op{Kind: api.Del, Key: "a"}))
}

// P23.3: what was let go is seen when it comes again, and there is room by then.
func TestRoomAgain(t *testing.T) {
	a := ev(1, 1, 7, api.VV{}, set("k", many(64, "v")))
	b := ev(1, 2, 8, api.VV{}, api.Op{Kind: api.Del, Key: "k"})
	c := ev(1, 3, 9, api.VV{}, set("k", many(64, "w")))
	n := made(t, 0, 2, sizes(a, b, c)-1)
	takes(t, n, Msg{From: 1, To: 0, Seen: vv(1, 2), Events: []api.Event{a, b, c}})
	saw(t, n, vv(1, 2), api.VV{})
	n.Sync()
	collects(t, n, 2, 0)
	compacts(t, n, api.OK)
	lets(t, n, 1, api.Event{})
	saw(t, n, vv(1, 2), vv(1, 2))
	lets(t, n, 1, c)
	saw(t, n, vv(1, 3), vv(1, 2))
	asks(t, n, "GET k", "$64|"+many(64, "w")+"|")
}

// P23.3: an answer has the first events that are fast and that the one who asks lacks, in the order in which they were
// seen, MaxBatch at most; a message that doesn't ask has none.
func TestAnswers(t *testing.T) {
	n := made(t, 1, 3, topFile)
	theirs := row(2, 10)
	var seen []api.Event
	for i, e := range theirs[:9] {
		asks(t, n, "SET n v", "+OK|")
		lets(t, n, 2, e)
		seen = append(seen, ev(1, i+1, 5*65536+i, vv(2, i), set("n", "v")), e)
	}
	takes(t, n, Msg{From: 0, To: 1, Ask: true}, Msg{From: 1, To: 0})
	n.Sync()
	fast := vv(1, 9, 2, 9)
	asks(t, n, "SET l v", "+OK|")
	lets(t, n, 2, theirs[9])
	for _, c := range []struct {
		seen api.VV
		want []api.Event
	}{
		{api.VV{}, seen[:8]},
		{vv(1, 1), seen[1:9]},
		{vv(1, 4, 2, 4), seen[8:16]},
		{vv(1, 5, 2, 5), seen[10:]},
		{vv(1, 9, 2, 8), seen[17:]},
		{vv(1, 9, 2, 9), nil},
		{vv(1, 8, 2, topSeq), seen[16:17]},
		{all(topSeq), nil},
	} {
		takes(t, n, Msg{From: 0, To: 1, Seen: c.seen})
		takes(t, n, Msg{From: 0, To: 1, Ask: true, Seen: c.seen}, Msg{From: 1, To: 0, Seen: fast, Events: c.want})
		takes(t, n, Msg{From: 2, To: 1, Ask: true, Seen: c.seen}, Msg{From: 1, To: 2, Seen: fast, Events: c.want})
	}
}

// P23.3: what comes with a question is seen ahead of its answer, but isn't told before it is fast.
func TestQuestionWithEvents(t *testing.T) {
	n := made(t, 0, 3, topFile)
	l := row(1, 3)
	takes(t, n, Msg{From: 1, To: 0, Ask: true, Events: l}, Msg{From: 0, To: 1})
	saw(t, n, vv(1, 3), api.VV{})
	n.Sync()
	takes(t, n, Msg{From: 2, To: 0, Ask: true, Seen: vv(1, 1)}, Msg{From: 0, To: 2, Seen: vv(1, 3), Events: l[1:]})
}

// The document's example: of seventeen events that one replica lacks three answers bring all: of eight, eight, and one.
func TestThreeAnswers(t *testing.T) {
	a, b := made(t, 0, 2, topFile), made(t, 1, 2, topFile)
	for range 17 {
		a.Command([]string{"INCRBY", "k", "1"}, 3)
	}
	a.Sync()
	for _, want := range []int{8, 8, 1, 0} {
		question := b.Ask()
		if len(question) != 1 {
			t.Fatalf("asks %v", question)
		}
		answer := a.Take(question[0])
		if len(answer) != 1 || len(answer[0].Events) != want {
			t.Fatalf("want %d events: %v", want, answer)
		}
		takes(t, b, answer[0])
		b.Sync()
	}
	asks(t, b, "COUNT k", ":17|")
	saw(t, b, vv(0, 17), vv(0, 17))
}

// P23.3: events of replicas that the store hasn't, and of this one itself, are seen as all others are.
func TestEventsOfAnybody(t *testing.T) {
	n := made(t, 0, 2, topFile)
	lets(t, n, 1, ev(last, 1, 9, api.VV{}, set("k", "v")), ev(0, 1, 9, vv(last, 1), set("k", "w")))
	saw(t, n, vv(0, 1, last, 1), api.VV{})
	asks(t, n, "GET k", "$1|w|")
	asks(t, n, "SET k x", "+OK|")
	saw(t, n, vv(0, 2, last, 1), api.VV{})
	n.Sync()
	takes(t, n, Msg{From: 1, To: 0, Ask: true, Seen: vv(0, 1, last, 1)}, Msg{From: 0, To: 1, Seen: vv(0, 2, last, 1),
		Events: []api.Event{ev(0, 2, 5*65536, vv(last, 1), set("k", "x"))}})
}
