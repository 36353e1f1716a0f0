package cluster

import (
	"math"
	"testing"

	"polyphony/api"
)

// The document's example.
func TestExample(t *testing.T) {
	c := made(t, 2, topFile)
	asks(t, c, 0, "SET k v", "+OK|")
	does(t, c, Step{Kind: Fsync}, Answer{})
	does(t, c, Step{Kind: Ask, Node: 1}, Answer{N: 1})
	does(t, c, Step{Kind: Deliver}, Answer{N: 1})
	does(t, c, Step{Kind: Deliver}, Answer{})
	asks(t, c, 1, "GET k", "$1|v|")
}

// The document's ninth example of the whole: a crash ahead of any sync, and behind one.
func TestCrashAndSync(t *testing.T) {
	for _, isSynced := range []bool{false, true} {
		c, want := made(t, 1, topFile), "$-1|"
		asks(t, c, 0, "SET k v", "+OK|")
		if isSynced {
			does(t, c, Step{Kind: Fsync}, Answer{})
			want = "$1|v|"
		}
		does(t, c, Step{Kind: Crash}, Answer{})
		does(t, c, Step{Kind: Start}, Answer{})
		asks(t, c, 0, "GET k", want)
	}
}

// The kinds' numbers, and how many messages there may be.
func TestConstants(t *testing.T) {
	for i, kind := range []int{Client, Fsync, Ask, Deliver, Drop, Double, Crash, Start, Compact, Collect, Wall} {
		if kind != i+1 {
			t.Errorf("kind %d is %d", i+1, kind)
		}
	}
	if Flying != flying {
		t.Errorf("Flying is %d", Flying)
	}
}

// P24.1: a cluster has from 1 to MaxReplicas nodes.
func TestNew(t *testing.T) {
	for _, replicas := range []int{math.MinInt, -1, 0, most + 1, most + 2, 256, math.MaxInt} {
		if c, e := New(replicas, topFile); c != nil || e != api.ErrArg {
			t.Errorf("New(%d, ..): %v, %d", replicas, c, e)
		}
	}
	for replicas := 1; replicas <= most; replicas++ {
		c := made(t, replicas, topFile)
		if n := c.Replicas(); n != replicas {
			t.Errorf("of %d: %d", replicas, n)
		}
		flies(t, c, 0)
		for at := range replicas {
			saw(t, c, at, api.VV{}, api.VV{})
			keeps(t, c, at, 0, 0)
			asks(t, c, at, "KEYS", "*0|")
			asks(t, c, at, "SET k v", "+OK|")
			saw(t, c, at, vv(at, 1), api.VV{})
			does(t, c, Step{Kind: Ask, Node: at}, Answer{N: replicas - 1})
		}
		flies(t, c, replicas*(replicas-1))
	}
}

// P24.1: each node's disk has that room.
func TestRoom(t *testing.T) {
	for _, room := range []int{math.MinInt, -1, 0, 5} {
		c := made(t, 2, room)
		for at := range 2 {
			asks(t, c, at, "SET k v", "-ERR full|")
			asks(t, c, at, "GET k", "$-1|")
			saw(t, c, at, api.VV{}, api.VV{})
		}
	}
	// A log of one event, which has the same size on each node.
	least := 0
	for least < 100 && made(t, 2, least).Do(Step{Kind: Client, Node: 1, Bytes: wire("SET k v")}).Bytes != "+OK\r\n" {
		least++
	}
	if least < 20 || least > 60 {
		t.Fatalf("an event takes %d bytes", least)
	}
	c := made(t, 2, 2*least-1)
	for at := range 2 {
		asks(t, c, at, "SET k v", "+OK|")
		asks(t, c, at, "SET k v", "-ERR full|")
	}
	// No disk has more room than MaxFile.
	for _, room := range []int{topFile, topFile + 1, math.MaxInt} {
		c, n := made(t, 1, room), 0
		for c.Do(Step{Kind: Client, Bytes: wire("SET k v")}).Bytes == "+OK\r\n" {
			n++
		}
		// The later events' bytes are a few more than the first one's.
		if n < topFile/(least+4) || n > topFile/least {
			t.Errorf("room %d: %d events", room, n)
		}
	}
}

// P24.1: a step of no kind, of no message, of no node changes nothing, and answers its error alone.
func TestNone(t *testing.T) {
	c := made(t, 3, topFile)
	asks(t, c, 0, "SET k v", "+OK|")
	does(t, c, Step{Kind: Ask, Node: 1}, Answer{N: 2})
	does(t, c, Step{Kind: Crash, Node: 2}, Answer{})
	for _, kind := range []int{math.MinInt, -1, 0, 12, 13, 256 + Ask, math.MaxInt} {
		for _, at := range []int{0, 1, 3} {
			does(t, c, Step{Kind: kind, Node: at, N: 0, At: 1, Bytes: wire("SET k w")}, Answer{Err: api.ErrArg})
		}
	}
	for _, kind := range []int{Deliver, Drop, Double} {
		for _, n := range []int{math.MinInt, -256, -1, 2, 3, 255, 256, 257, math.MaxInt} {
			does(t, c, Step{Kind: kind, N: n, At: 1, Turn: 1, Bytes: "x"}, Answer{Err: api.ErrNone})
			// No node is named here: whether there is one plays no part.
			does(t, c, Step{Kind: kind, Node: 3, N: n}, Answer{Err: api.ErrNone})
		}
	}
	for _, kind := range []int{Client, Fsync, Ask, Crash, Start, Compact, Collect, Wall} {
		for _, at := range []int{math.MinInt, -1, 3, 4, 16, 256, math.MaxInt} {
			does(t, c, Step{Kind: kind, Node: at, N: 1, Bytes: wire("SET k w")}, Answer{Err: api.ErrArg})
		}
	}
	isUnderWay(t, c, "ba? bc?")
	saw(t, c, 0, vv(0, 1), api.VV{})
	saw(t, c, 1, api.VV{}, api.VV{})
	isDown(t, c, 2)
	asks(t, c, 0, "GET k", "$1|v|")
	// Of no message there is none, whoever is up.
	for range 2 {
		does(t, c, Step{Kind: Drop, Node: -1}, Answer{})
	}
	for _, kind := range []int{Deliver, Drop, Double} {
		does(t, c, Step{Kind: kind}, Answer{Err: api.ErrNone})
	}
}

// P24.1: what isn't named of an answer is empty, and of a step what its kind doesn't ask for plays no part.
func TestNotNamed(t *testing.T) {
	full := Step{N: 3, At: 1, Turn: 7, Bytes: wire("SET k v")}
	with := func(kind, n int) Step {
		s := full
		s.Kind, s.N = kind, n
		return s
	}
	c := made(t, 3, topFile)
	does(t, c, with(Fsync, 3), Answer{})
	does(t, c, with(Collect, 3), Answer{})
	does(t, c, with(Compact, 3), Answer{})
	does(t, c, with(Start, 3), Answer{Err: api.ErrState})
	does(t, c, with(Ask, 3), Answer{N: 2})
	does(t, c, with(Double, 1), Answer{})
	does(t, c, with(Drop, 1), Answer{})
	does(t, c, with(Deliver, 1), Answer{N: 1})
	does(t, c, with(Wall, 3), Answer{})
	does(t, c, with(Crash, 3), Answer{})
	isDown(t, c, 0)
	does(t, c, with(Start, 3), Answer{})
	saw(t, c, 0, api.VV{}, api.VV{})
	says(t, c, 0, "", "")
	does(t, c, with(Client, 3), Answer{Bytes: "+OK\r\n"})
}

// P24.5: what the nodes tell, each of itself.
func TestSeenAndKept(t *testing.T) {
	c := made(t, 3, topFile)
	for i, words := range []string{"RPUSH l a", "RPUSH l b", "LREM l 0"} {
		asks(t, c, 1, words, []string{":1|", ":2|", ":1|"}[i])
		if i == 1 {
			does(t, c, Step{Kind: Fsync, Node: 1}, Answer{})
		}
	}
	asks(t, c, 2, "SET k v", "+OK|")
	saw(t, c, 0, api.VV{}, api.VV{})
	saw(t, c, 1, vv(1, 3), vv(1, 2))
	saw(t, c, 2, vv(2, 1), api.VV{})
	keeps(t, c, 0, 0, 0)
	keeps(t, c, 1, 3, 1)
	keeps(t, c, 2, 1, 0)
	does(t, c, Step{Kind: Crash, Node: 1}, Answer{})
	isDown(t, c, 1)
	does(t, c, Step{Kind: Start, Node: 1}, Answer{})
	saw(t, c, 1, vv(1, 2), vv(1, 2))
	keeps(t, c, 1, 2, 0)
	for _, at := range []int{math.MinInt, -1, 3, 4, 16, math.MaxInt} {
		isDown(t, c, at)
	}
	if n := c.Replicas(); n != 3 {
		t.Errorf("Replicas: %d", n)
	}
}

// P24.8: a nil cluster, and the zero one.
func TestNoCluster(t *testing.T) {
	for _, c := range []*Cluster{nil, {}} {
		for kind := -1; kind <= 13; kind++ {
			for at := -1; at <= 16; at++ {
				does(t, c, Step{Kind: kind, Node: at, Bytes: wire("SET k v")}, Answer{Err: api.ErrArg})
				does(t, c, Step{Kind: kind, N: at}, Answer{Err: api.ErrArg})
			}
		}
		for at := -1; at <= 16; at++ {
			isDown(t, c, at)
		}
		flies(t, c, 0)
		if n := c.Replicas(); n != 0 {
			t.Errorf("Replicas: %d", n)
		}
	}
}
