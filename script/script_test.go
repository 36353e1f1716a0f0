package script

import (
	"fmt"
	"math"
	"strings"
	"testing"

	"polyphony/api"
	"polyphony/cluster"
)

// The document's example.
func TestExample(t *testing.T) {
	b := append([]byte{1, 1, 0, 3, 3}, "SET\x01k\x01v"...)
	b = append(b, 2, 0, 3, 1, 4, 0, 4, 0)
	runs(t, b, "client 0 ok +OK||\nfsync 0 ok\nask 1 ok 1\ndeliver ok 1\ndeliver ok 0\nnode 0 1\nnode 1 1")
	decodes(t, b, 2,
		cluster.Step{Kind: cluster.Client, Bytes: "*3\r\n$3\r\nSET\r\n$1\r\nk\r\n$1\r\nv\r\n"},
		cluster.Step{Kind: cluster.Fsync},
		cluster.Step{Kind: cluster.Ask, Node: 1},
		cluster.Step{Kind: cluster.Deliver},
		cluster.Step{Kind: cluster.Deliver})
}

// P25.1: the first byte tells how many replicas there are; without it there is one.
func TestReplicas(t *testing.T) {
	decodes(t, nil, 1)
	decodes(t, []byte{}, 1)
	runs(t, nil, "node 0 0")
	for first := range 256 {
		want := 1 + first%maxReplicas
		decodes(t, []byte{byte(first)}, want)
		// A first byte is no kind, whatever it is.
		decodes(t, []byte{byte(first), 0, 0, 0, 0, 0, 0}, want)
		decodes(t, []byte{byte(first), 2, 255, 3, 16, 8, 15, 9, 14, 10, 0}, want,
			cluster.Step{Kind: cluster.Fsync, Node: 255 % want},
			cluster.Step{Kind: cluster.Ask, Node: 16 % want},
			cluster.Step{Kind: cluster.Start, Node: 15 % want},
			cluster.Step{Kind: cluster.Compact, Node: 14 % want},
			cluster.Step{Kind: cluster.Collect})
	}
}

// entry is an entry's bytes, and its step among three replicas.
type entry struct {
	bytes []byte
	step  cluster.Step
}

// entries is some of each kind, with the edges of what they may tell.
func entries() []entry {
	wide := many(255, "w")
	return []entry{
		{[]byte{1, 0, 0}, cluster.Step{Kind: cluster.Client, Bytes: "*0\r\n"}},
		{[]byte{1, 1, 5}, cluster.Step{Kind: cluster.Client, Node: 1, Bytes: "*0\r\n"}},
		{[]byte{1, 2, 255}, cluster.Step{Kind: cluster.Client, Node: 2, Bytes: "*0\r\n"}},
		{[]byte{1, 3, 1, 0}, cluster.Step{Kind: cluster.Client, Bytes: "*1\r\n$0\r\n\r\n"}},
		{[]byte{1, 255, 6, 1, 13}, cluster.Step{Kind: cluster.Client, Bytes: "*1\r\n$1\r\n\r\r\n"}},
		{client(1, "GET", "k"), cluster.Step{Kind: cluster.Client, Node: 1, Bytes: wire("GET", "k")}},
		{client(0, "", "a", ""), cluster.Step{Kind: cluster.Client, Bytes: wire("", "a", "")}},
		{client(4, "A", "bc", "\x00\xff\r\n", "1 2 3"), cluster.Step{Kind: cluster.Client, Node: 1, Bytes: wire("A", "bc", "\x00\xff\r\n", "1 2 3")}},
		{client(0, wide, many(64, "a"), many(65, "b"), wide), cluster.Step{Kind: cluster.Client, Bytes: wire(wide, many(64, "a"), many(65, "b"), wide)}},
		{[]byte{1, 0, 254, 0, 0, 0, 0}, cluster.Step{Kind: cluster.Client, Bytes: wire("", "", "", "")}},
		{[]byte{2, 0}, cluster.Step{Kind: cluster.Fsync}},
		{[]byte{2, 254}, cluster.Step{Kind: cluster.Fsync, Node: 2}},
		{[]byte{3, 2}, cluster.Step{Kind: cluster.Ask, Node: 2}},
		{[]byte{4, 0}, cluster.Step{Kind: cluster.Deliver}},
		{[]byte{4, 255}, cluster.Step{Kind: cluster.Deliver, N: 255}},
		{[]byte{5, 4}, cluster.Step{Kind: cluster.Drop, N: 4}},
		{[]byte{6, 128}, cluster.Step{Kind: cluster.Double, N: 128}},
		{[]byte{7, 0, 0, 0, 0, 0}, cluster.Step{Kind: cluster.Crash}},
		{[]byte{7, 5, 1, 2, 3, 4}, cluster.Step{Kind: cluster.Crash, Node: 2, N: 1, At: 2, Turn: 772}},
		{[]byte{7, 255, 255, 255, 255, 255}, cluster.Step{Kind: cluster.Crash, N: 255, At: 255, Turn: 65535}},
		{[]byte{7, 1, 0, 0, 0, 9}, cluster.Step{Kind: cluster.Crash, Node: 1, Turn: 9}},
		{[]byte{8, 7}, cluster.Step{Kind: cluster.Start, Node: 1}},
		{[]byte{9, 2}, cluster.Step{Kind: cluster.Compact, Node: 2}},
		{[]byte{10, 1}, cluster.Step{Kind: cluster.Collect, Node: 1}},
		{[]byte{11, 1, 1, 2}, cluster.Step{Kind: cluster.Wall, Node: 1, N: 258}},
		{[]byte{11, 5, 255, 255}, cluster.Step{Kind: cluster.Wall, Node: 2, N: 65535}},
		{[]byte{11, 0, 0, 0}, cluster.Step{Kind: cluster.Wall}},
	}
}

// P25.1: each kind's entry; one ahead of another one; with bytes that are no kind ahead, between, and behind.
func TestEntries(t *testing.T) {
	none := []byte{0, 12, 13, 127, 128, 255}
	for _, a := range entries() {
		decodes(t, join([]byte{2}, a.bytes), 3, a.step)
		for _, b := range entries() {
			decodes(t, join([]byte{18}, a.bytes, b.bytes), 3, a.step, b.step)
			decodes(t, join([]byte{2}, none, a.bytes, none, b.bytes, none), 3, a.step, b.step)
		}
	}
}

// P25.1: each byte that is no kind is passed over.
func TestNoKind(t *testing.T) {
	for n := range 256 {
		b := []byte{1, 8, 1, byte(n), 9, 0}
		if n >= 1 && n <= 11 {
			continue
		}
		decodes(t, b, 2, cluster.Step{Kind: cluster.Start, Node: 1}, cluster.Step{Kind: cluster.Compact})
		decodes(t, []byte{1, byte(n)}, 2)
		decodes(t, join([]byte{1}, repeat(300, byte(n)), []byte{4, byte(n)}, repeat(300, byte(n))), 2, cluster.Step{Kind: cluster.Deliver, N: n})
	}
}

// P25.1: an entry that the bytes end within is passed over, with all that stands behind its kind: none of it is an entry.
func TestCutOff(t *testing.T) {
	first := cluster.Step{Kind: cluster.Wall, Node: 1, N: 513}
	for _, e := range entries() {
		for n := range len(e.bytes) {
			decodes(t, join([]byte{2, 11, 1, 2, 1}, e.bytes[:n]), 3, first)
		}
	}
	for _, b := range [][]byte{
		{7, 2, 2, 2, 2}, {7, 4}, {11, 2, 2}, {1, 2, 2, 2, 2, 2, 2}, {1, 0, 1, 9, 2, 0, 2, 0, 2, 0, 2, 0}, {1, 0, 4, 0, 0, 0},
		{1, 0, 1, 255, 4, 4, 4, 4, 4, 4}, {1, 0, 2, 4, 4, 4, 4, 4}, {1, 4, 4, 1, 1, 1, 1, 1, 1, 4}, {1, 3}, {4}, {1},
	} {
		decodes(t, join([]byte{2, 11, 1, 2, 1}, b), 3, first)
		runs(t, join([]byte{2, 11, 1, 2, 1}, b), "wall 1 ok\nnode 0 0\nnode 1 0\nnode 2 0")
	}
}

// P25.1: the first 4096 bytes count: an entry that ends with them is one, and one that ends behind them is none.
func TestBound(t *testing.T) {
	for _, e := range entries() {
		for _, more := range []int{0, 1, 2, 5, 4096} {
			rest := repeat(more, 2)
			for behind := range len(e.bytes) {
				b := join([]byte{2}, make([]byte, bound-1-len(e.bytes)+behind), e.bytes, rest)
				if behind == 0 {
					decodes(t, b, 3, e.step)
				} else {
					decodes(t, b, 3)
				}
			}
		}
	}
	// So many entries as there may be: a first byte, and 2047 of two bytes; one byte is left.
	n, l := Decode(repeat(5000, 4))
	if n != 5 || len(l) != 2047 || l[2046] != (cluster.Step{Kind: cluster.Deliver, N: 4}) {
		t.Errorf("%d replicas, %d steps", n, len(l))
	}
	if l := Run(repeat(5000, 4)); len(l) != 2047+5 || l[2046] != "deliver none" || l[2047] != "node 0 0" {
		t.Errorf("%d lines", len(l))
	}
}

// P25.1: a line of each kind, all being well, and with each error.
func TestLine(t *testing.T) {
	kinds := []string{"?", "client 7", "fsync 7", "ask 7", "deliver", "drop", "double", "crash 7", "start 7", "compact 7", "collect 7", "wall 7"}
	well := []string{"? 7", " +OK||$-1||", "", " 5", " 5", "", "", "", "", "", " 5", ""}
	faults := []string{"ok", "arg", "short", "form", "long", "sum", "over", "none", "type", "full", "lost", "state", "arity", "int", "unknown", "down"}
	for kind := 1; kind < len(kinds); kind++ {
		s := cluster.Step{Kind: kind, Node: 7, N: 1, At: 2, Turn: 3, Bytes: "x"}
		for fault, word := range faults {
			want := kinds[kind] + " " + word
			if fault == 0 {
				want += well[kind]
			}
			lineIs(t, s, cluster.Answer{Err: api.Errno(fault), Bytes: "+OK\r\n$-1\r\n", N: 5}, want)
		}
		for _, fault := range []api.Errno{math.MinInt, -1, 16, 17, 256, math.MaxInt} {
			lineIs(t, s, cluster.Answer{Err: fault, Bytes: "+OK\r\n", N: 5}, kinds[kind]+" ?")
		}
	}
	for _, kind := range []int{math.MinInt, -1, 0, 12, 13, 256 + 4, math.MaxInt} {
		s := cluster.Step{Kind: kind, Node: 7, Bytes: "x"}
		lineIs(t, s, cluster.Answer{Err: 1}, "? 7 arg")
		lineIs(t, s, cluster.Answer{Err: 99}, "? 7 ?")
		lineIs(t, s, cluster.Answer{Bytes: "+OK\r\n", N: 5}, "? 7 ok")
	}
}

// lineIs holds a line against what it shall be.
func lineIs(t *testing.T, s cluster.Step, a cluster.Answer, want string) {
	t.Helper()
	if l := Line(s, a); l != want {
		t.Errorf("Line(%+v, %+v): %q, want %q", s, a, l, want)
	}
}

// P25.1: nodes and numbers are told whatever they are; of a client's bytes just those that end lines are told otherwise.
func TestLineNumbersAndBytes(t *testing.T) {
	for _, n := range []int{math.MinInt, -1, 0, 1, 9, 10, 16, 255, 65535, math.MaxInt} {
		lineIs(t, cluster.Step{Kind: cluster.Ask, Node: n}, cluster.Answer{N: n}, fmt.Sprintf("ask %d ok %d", n, n))
		lineIs(t, cluster.Step{Kind: cluster.Collect, Node: n}, cluster.Answer{N: n}, fmt.Sprintf("collect %d ok %d", n, n))
		lineIs(t, cluster.Step{Kind: cluster.Deliver, Node: n, N: 7}, cluster.Answer{N: n}, fmt.Sprintf("deliver ok %d", n))
	}
	s := cluster.Step{Kind: cluster.Client, Bytes: "asked"}
	lineIs(t, s, cluster.Answer{}, "client 0 ok")
	all, want := "", "client 0 ok "
	for n := range 256 {
		all += string([]byte{byte(n)})
		if n == 10 || n == 13 {
			want += "|"
		} else {
			want += string([]byte{byte(n)})
		}
	}
	lineIs(t, s, cluster.Answer{Bytes: all}, want)
	for bytes, want := range map[string]string{"\r": "|", "\n": "|", "\r\n": "||", "\n\r": "||", "|": "|", " ": " ", "é\u2028\u0085": "é\u2028\u0085", "\xe2\x80\r": "\xe2\x80|", "\x00": "\x00"} {
		lineIs(t, s, cluster.Answer{Bytes: bytes}, "client 0 ok "+want)
	}
}

// P25.2: the lines of all steps, one behind the other; then one of each node.
func TestRun(t *testing.T) {
	runs(t, []byte{15}, strings.Join([]string{
		"node 0 0", "node 1 0", "node 2 0", "node 3 0", "node 4 0", "node 5 0", "node 6 0", "node 7 0",
		"node 8 0", "node 9 0", "node 10 0", "node 11 0", "node 12 0", "node 13 0", "node 14 0", "node 15 0",
	}, "\n"))
	runs(t, join([]byte{2},
		says(0, "SET k v"), says(0, "GET k"), says(1, "RPUSH l a"), says(1, "LRANGE l 0 -1"), says(2, "GET k"),
		[]byte{11, 0, 1, 0, 2, 0, 2, 1, 3, 2, 6, 0, 5, 2, 4, 0, 4, 1, 4, 9, 4, 0, 4, 0},
		says(2, "KEYS"), says(2, "DEL k"), []byte{10, 0, 9, 1, 8, 0, 7, 1, 9, 9, 9, 9, 8, 1, 7, 2, 0, 0, 0, 0, 8, 2, 7, 1, 0, 0, 0, 0}, says(1, "KEYS"), []byte{9, 1}),
		`client 0 ok +OK||
client 0 ok $1||v||
client 1 ok :1||
client 1 ok *1||$1||a||
client 2 ok $-1||
wall 0 ok
fsync 0 ok
fsync 1 ok
ask 2 ok 2
double ok
drop ok
deliver ok 1
deliver ok 0
deliver none
deliver ok 1
deliver ok 0
client 2 ok *2||$1||k||$1||l||
client 2 ok :1||
collect 0 ok 0
compact 1 ok
start 0 state
crash 1 ok
start 1 ok
crash 2 ok
start 2 ok
crash 1 ok
client 1 ok -ERR down||
compact 1 state
node 0 1
node 1 down
node 2 0`)
}

// P25.2: a node's number of events is all replicas' together.
func TestSum(t *testing.T) {
	b := []byte{3}
	for node := range byte(4) {
		b = join(b, times(int(node)+1, says(node, "RPUSH l a")))
	}
	for range 2 {
		b = join(b, meet(0, 3, 4), meet(1, 3, 4), meet(2, 3, 4))
	}
	l := Run(b)
	if got := strings.Join(l[len(l)-4:], " "); got != "node 0 1 node 1 2 node 2 3 node 3 10" {
		t.Error(got)
	}
}

// P25.2: there is room for all that so few bytes can ask for.
func TestRoom(t *testing.T) {
	b := []byte{0}
	one := says(0, "RPUSH l a")
	n := (bound - 1) / len(one)
	l := Run(join(b, times(n, one)))
	if len(l) != n+1 || n < 300 {
		t.Fatalf("%d lines", len(l))
	}
	for i, line := range l[:n] {
		if want := fmt.Sprintf("client 0 ok :%d||", i+1); line != want {
			t.Fatalf("line %d: %q", i, line)
		}
	}
	if want := fmt.Sprintf("node 0 %d", n); l[n] != want {
		t.Errorf("%q, want %q", l[n], want)
	}
}

// A client's wrong bytes are refused, and the next ones are read anew.
func TestWrongCommands(t *testing.T) {
	runs(t, join([]byte{0}, client(0), client(0, ""), client(0, many(65, "a")), client(0, "SET", "k"), client(0, "SET", many(64, "k"), ""),
		client(0, "incrby", "n", "x"), client(0, "GET", many(64, "k")), client(0, "COUNT", many(64, "k")), client(0, "GET", "\r\n")),
		`client 0 ok -ERR long||
client 0 ok -ERR unknown||
client 0 ok -ERR long||
client 0 ok -ERR arity||
client 0 ok +OK||
client 0 ok -ERR int||
client 0 ok $0||||
client 0 ok -WRONGTYPE||
client 0 ok $-1||
node 0 1`)
}
