package node

import (
	"slices"
	"strings"
	"testing"

	"polyphony/api"
	"polyphony/event"
	"polyphony/resp"
)

// The limits, as the document says them.
const (
	last    = 15
	topFile = 65536
	topSeq  = 1 << 20
	topWall = 1<<44 - 1
	topTime = 1<<60 - 1
	batch   = 8
)

// dice is numbers that look like no pattern, the same ones each time.
type dice uint32

func (s *dice) roll(n int) int {
	*s = *s*1664525 + 1013904223
	return int(*s>>8) % n
}

// pick is one of several things.
func pick[T any](s *dice, l ...T) T { return l[s.roll(len(l))] }

func many(n int, c string) string { return strings.Repeat(c, n) }

// made is a new node.
func made(t *testing.T, self, replicas, room int) *Node {
	t.Helper()
	n, e := New(self, replicas, room)
	if e != api.OK || n == nil {
		t.Fatalf("New(%d, %d, %d): %v, %d", self, replicas, room, n, e)
	}
	return n
}

// lone is the only replica of its store, with the greatest disk.
func lone(t *testing.T) *Node {
	t.Helper()
	return made(t, 0, 1, topFile)
}

// told is a reply's bytes, with each line's end as a |.
func told(r resp.Reply) string { return strings.ReplaceAll(string(resp.Encode(r)), "\r\n", "|") }

// does holds what a command of some words answers at a wall against what it shall answer.
func does(t *testing.T, n *Node, wall int, words, want string) {
	t.Helper()
	if got := told(n.Command(fields(words), wall)); got != want {
		t.Fatalf("%s at %d: %.200q, want %.200q", words, wall, got, want)
	}
}

// asks holds what a command answers at the wall 5 against what it shall answer.
func asks(t *testing.T, n *Node, words, want string) {
	t.Helper()
	does(t, n, 5, words, want)
}

// saw holds Seen against what it shall tell.
func saw(t *testing.T, n *Node, all, fast api.VV) {
	t.Helper()
	if a, f := n.Seen(); a != all || f != fast {
		t.Fatalf("Seen: %v, %v, want %v, %v", a, f, all, fast)
	}
}

// keeps holds Kept against what it shall tell.
func keeps(t *testing.T, n *Node, others, dead int) {
	t.Helper()
	if o, d := n.Kept(); o != others || d != dead {
		t.Fatalf("Kept: %d, %d, want %d, %d", o, d, others, dead)
	}
}

// collects holds Collect against what it shall tell.
func collects(t *testing.T, n *Node, others, dead int) {
	t.Helper()
	if o, d := n.Collect(); o != others || d != dead {
		t.Fatalf("Collect: %d, %d, want %d, %d", o, d, others, dead)
	}
}

// compacts holds Compact against what it shall tell.
func compacts(t *testing.T, n *Node, want api.Errno) {
	t.Helper()
	if e := n.Compact(); e != want {
		t.Fatalf("Compact: %d, want %d", e, want)
	}
}

// again crashes a node, and starts it.
func again(t *testing.T, n *Node, keep, at, turn int) {
	t.Helper()
	n.Crash(keep, at, turn)
	if n.Up() {
		t.Fatal("up behind a crash")
	}
	if e := n.Start(); e != api.OK || !n.Up() {
		t.Fatalf("Start: %d, %t", e, n.Up())
	}
}

// sameMsg tells whether two messages are the same.
func sameMsg(a, b Msg) bool {
	return a.From == b.From && a.To == b.To && a.Ask == b.Ask && a.Seen == b.Seen && slices.Equal(a.Events, b.Events)
}

// takes holds what Take answers against what it shall answer.
func takes(t *testing.T, n *Node, m Msg, want ...Msg) {
	t.Helper()
	if got := n.Take(m); !slices.EqualFunc(got, want, sameMsg) {
		t.Fatalf("Take(%+v):\n%+v\nwant\n%+v", m, got, want)
	}
}

// lets has a node see events that another replica tells.
func lets(t *testing.T, n *Node, from int, l ...api.Event) {
	t.Helper()
	takes(t, n, Msg{From: from, To: n.self, Events: l})
}

// has is what a node tells replica to, if that has seen a vector.
func has(t *testing.T, n *Node, to int, v api.VV) Msg {
	t.Helper()
	l := n.Take(Msg{From: to, To: n.self, Ask: true, Seen: v})
	if len(l) != 1 || l[0].From != n.self || l[0].To != to || l[0].Ask {
		t.Fatalf("asked by %d: %+v", to, l)
	}
	return l[0]
}

// ev is the event n of replica r, made at a time, which had seen deps and what it made itself.
func ev(r, n, time int, deps api.VV, op api.Op) api.Event {
	deps[r] = n - 1
	return api.Event{Dot: api.Dot{R: r, N: n}, Time: time, Deps: deps, Op: op}
}

// set is a Set of a key.
func set(key, value string) api.Op { return api.Op{Kind: api.Set, Key: key, Value: value} }

// push is a Push into the list l.
func push(value string, ref api.Dot) api.Op {
	return api.Op{Kind: api.Push, Key: "l", Value: value, Ref: ref}
}

// row is so many events of a replica, which have seen nothing of others.
func row(r, n int) []api.Event {
	var l []api.Event
	for i := range n {
		l = append(l, ev(r, i+1, 9, api.VV{}, set("k", "v")))
	}
	return l
}

// size is how many bytes an event takes in a log: its own, its kind, and the frame's.
func size(e api.Event) int {
	b, fault := event.Encode(e)
	if fault != api.OK {
		panic("an event that can't be")
	}
	return len(b) + 1 + 6
}

// sizes is how many bytes events take in a log.
func sizes(l ...api.Event) int {
	n := 0
	for _, e := range l {
		n += size(e)
	}
	return n
}

// vv is a vector with a number for some replicas: replica, number, and so on.
func vv(pairs ...int) api.VV {
	var v api.VV
	for i := 0; i < len(pairs); i += 2 {
		v[pairs[i]] = pairs[i+1]
	}
	return v
}

// all is a vector with one number for each replica.
func all(n int) api.VV {
	var v api.VV
	for r := range v {
		v[r] = n
	}
	return v
}

// fields is a command's words.
func fields(words string) []string { return strings.Fields(words) }
