package cluster

import (
	"math"
	"slices"
	"testing"

	"polyphony/api"
)

// odd is numbers at the edges of what there is.
func odd() []int {
	return []int{math.MinInt, math.MinInt + 1, -1 << 40, -65537, -1, 0, 1, 2, 3, 15, 16, 17, 255, 256, 257, 65535, 65536, topWall, topWall + 1, math.MaxInt - 1, math.MaxInt}
}

// filled is three nodes that have seen something, one of which is down, and messages between them.
func filled(t *testing.T) *Cluster {
	t.Helper()
	c := made(t, 3, topFile)
	for at := range 3 {
		for _, words := range []string{"SET t v", "INCRBY n 5", "SADD g a", "HSET h f v", "ZADD z 3 a", "RPUSH l a", "RPUSH l b", "LREM l 1"} {
			if s := c.Do(Step{Kind: Client, Node: at, Bytes: wire(words)}).Bytes; s[0] == '-' {
				t.Fatalf("%s: %q", words, s)
			}
		}
		does(t, c, Step{Kind: Client, Node: at, Bytes: "*1\r\n$4"}, Answer{})
	}
	for at := range 3 {
		does(t, c, Step{Kind: Fsync, Node: at}, Answer{})
		does(t, c, Step{Kind: Ask, Node: at}, Answer{N: 2})
	}
	does(t, c, Step{Kind: Deliver}, Answer{N: 1})
	does(t, c, Step{Kind: Deliver, N: 3}, Answer{N: 1})
	does(t, c, Step{Kind: Crash, Node: 2}, Answer{})
	return c
}

// R1: all calls end, and none panics, at whatever arguments.
func TestAnyArguments(t *testing.T) {
	for _, replicas := range odd() {
		for _, room := range odd() {
			if c, e := New(replicas, room); (c == nil) != (e != api.OK) {
				t.Fatalf("New(%d, %d): %v, %d", replicas, room, c, e)
			}
		}
	}
	for _, a := range odd() {
		for _, c := range []*Cluster{nil, {}, filled(t)} {
			for _, b := range odd() {
				for kind := -1; kind <= 13; kind++ {
					c.Do(Step{Kind: kind, Node: a, N: b, At: a, Turn: b, Bytes: wire("SET k v")})
					c.Do(Step{Kind: kind, Node: b, N: a, At: b, Turn: a})
					c.Do(Step{Kind: kind, Node: 1, N: a, At: b, Turn: a, Bytes: many(300, "*1\r\n$")})
				}
				c.Do(Step{Kind: a, Node: b})
			}
			c.Seen(a)
			c.Kept(a)
		}
	}
}

// R2: a step that answers an error changes nothing that a later one could tell.
func TestErrorsChangeNothing(t *testing.T) {
	faulty := []Step{
		{Kind: 0, At: 1}, {Kind: 12, At: 1, Bytes: "x"}, {Kind: Client, Node: 3, At: 1, Bytes: "x"}, {Kind: Fsync, Node: -1}, {Kind: Ask, Node: 3},
		{Kind: Deliver, N: 99}, {Kind: Drop, N: -1}, {Kind: Double, N: 99}, {Kind: Crash, Node: 3}, {Kind: Start, Node: 0}, {Kind: Start, Node: 3},
		{Kind: Compact, Node: 2}, {Kind: Compact, Node: 3}, {Kind: Collect, Node: 3}, {Kind: Wall, Node: 3, N: -1},
	}
	later := []Step{
		{Kind: Client, Bytes: "\r\nKEYS\r\n"}, {Kind: Client, Node: 1, Bytes: "\r\nKEYS\r\n"}, {Kind: Client, Node: 2, Bytes: "\r\nKEYS\r\n"},
		{Kind: Client, Bytes: wire("SET k v")}, {Kind: Deliver, N: 2}, {Kind: Deliver, N: 3}, {Kind: Start, Node: 2}, {Kind: Deliver}, {Kind: Ask, Node: 1},
		{Kind: Client, Bytes: reads()}, {Kind: Client, Node: 1, Bytes: reads()}, {Kind: Client, Node: 2, Bytes: reads()}, {Kind: Collect},
	}
	play := func(ahead ...Step) []Answer {
		c := filled(t)
		for _, s := range ahead {
			if a := c.Do(s); a.Err == api.OK || a != (Answer{Err: a.Err}) {
				t.Fatalf("Do(%+v): %+v", s, a)
			}
		}
		var l []Answer
		for _, s := range later {
			l = append(l, c.Do(s), Answer{N: c.InFlight()})
		}
		return l
	}
	want := play()
	for _, s := range faulty {
		if got := play(s, s); !slices.Equal(got, want) {
			t.Errorf("behind %+v: %+v, want %+v", s, got, want)
		}
	}
	if got := play(faulty...); !slices.Equal(got, want) {
		t.Errorf("behind all of them: %+v, want %+v", got, want)
	}
}
