package script

import (
	"fmt"
	"slices"
	"strings"
	"testing"
)

// The document's examples of the whole, from the fifth on, as scripts of two replicas.

// tells holds the last lines that clients are told, one a replica, of one command that reads, and of its words.
func tells(t *testing.T, b []byte, words, want string) {
	t.Helper()
	l := of(Run(join(b, says(0, words), says(1, words))), "client")
	for node, line := range l[len(l)-2:] {
		if line != fmt.Sprintf("client %d ok %s", node, want) {
			t.Errorf("%s: %q, want %q", words, line, want)
		}
	}
}

// They set a key side by side, at one time: the one with the greater number wins.
func TestSideBySide(t *testing.T) {
	tells(t, join([]byte{1}, says(0, "SET k a"), says(1, "SET k b"), meet(0, 1, 2), meet(1, 0, 2)), "GET k", "$1||b||")
	tells(t, join([]byte{1}, says(1, "SET k b"), says(0, "SET k a"), meet(1, 0, 2), meet(0, 1, 2)), "GET k", "$1||b||")
	// At a later time the other one does.
	tells(t, join([]byte{1, 11, 0, 0, 1}, says(1, "SET k b"), says(0, "SET k a"), meet(1, 0, 2), meet(0, 1, 2)), "GET k", "$1||a||")
}

// One takes a member away, the other one adds it side by side: it is a member.
func TestAddWins(t *testing.T) {
	b := join([]byte{1}, says(0, "SADD g m"), meet(0, 1, 2))
	tells(t, join(b, says(0, "SREM g m"), says(1, "SREM g m"), says(1, "SADD g m"), meet(0, 1, 2), meet(1, 0, 2)), "SISMEMBER g m", ":1||")
	tells(t, join(b, says(0, "SREM g m"), meet(0, 1, 2), meet(1, 0, 2)), "SISMEMBER g m", ":0||")
}

// a, then b and c behind it, c later: a c b.
func TestListOrder(t *testing.T) {
	b := join([]byte{1}, says(0, "RPUSH l a"), meet(0, 1, 2))
	tells(t, join(b, says(0, "LINSERT l 1 b"), []byte{11, 1, 0, 9}, says(1, "LINSERT l 1 c"), meet(0, 1, 2), meet(1, 0, 2)),
		"LRANGE l 0 -1", "*3||$1||a||$1||c||$1||b||")
	tells(t, join(b, says(0, "LINSERT l 1 b"), meet(0, 1, 2), says(1, "LINSERT l 1 c"), meet(1, 0, 2)),
		"LRANGE l 0 -1", "*3||$1||a||$1||c||$1||b||")
}

// Of seventeen events that one lacks three answers bring all: of eight, eight, and one.
func TestAnswersOfEight(t *testing.T) {
	b := join([]byte{1}, times(17, says(0, "RPUSH l a")))
	for _, want := range []int{8, 16, 17, 17} {
		b = join(b, meet(0, 1, 2), []byte{2, 1})
		if l := Run(b); l[len(l)-1] != fmt.Sprintf("node 1 %d", want) {
			t.Errorf("%q, want %d", l[len(l)-1], want)
		}
	}
}

// A crash ahead of any sync, and behind one.
func TestCrash(t *testing.T) {
	set, get, crash := says(0, "SET k v"), says(0, "GET k"), []byte{7, 0, 0, 0, 0, 0, 8, 0}
	runs(t, join([]byte{0}, set, crash, get), "client 0 ok +OK||\ncrash 0 ok\nstart 0 ok\nclient 0 ok $-1||\nnode 0 0")
	runs(t, join([]byte{0}, set, []byte{2, 0}, crash, get), "client 0 ok +OK||\nfsync 0 ok\ncrash 0 ok\nstart 0 ok\nclient 0 ok $1||v||\nnode 0 1")
	// Bytes that a crash keeps may be all of an event, or may be turned.
	keep := []byte{7, 0, 255, 0, 0, 0, 8, 0}
	runs(t, join([]byte{0}, set, keep, get), "client 0 ok +OK||\ncrash 0 ok\nstart 0 ok\nclient 0 ok $1||v||\nnode 0 1")
	turn := []byte{7, 0, 255, 3, 0, 1, 8, 0}
	runs(t, join([]byte{0}, set, turn, get), "client 0 ok +OK||\ncrash 0 ok\nstart 0 ok\nclient 0 ok $-1||\nnode 0 0")
}

// reads is the bytes of commands by which all that a node has is told.
func reads(node byte) []byte {
	var b []byte
	for _, words := range []string{"KEYS", "GET t", "COUNT n", "SMEMBERS g", "HGETALL h", "ZRANGE z 0 -1", "LRANGE l 0 -1", "TYPE x"} {
		b = append(b, says(node, words)...)
	}
	return b
}

// P2, P4: whatever came to pass, replicas that are up, sync, ask, and are brought all messages have seen the same, and tell
// the same.
func TestTheyMeet(t *testing.T) {
	most := 0
	for seed := range dice(60) {
		s := seed*15485863 + 7
		replicas := 2 + s.roll(2)
		_, l, _ := aScript(&s, 200+s.roll(2200))
		b := join([]byte{byte(replicas - 1)}, slices.Concat(l...))
		for node := range replicas {
			b = append(b, 8, byte(node))
		}
		b = append(b, times(100, []byte{5, 0})...)
		for range 16 {
			for node := range replicas {
				b = append(b, 2, byte(node))
			}
			for node := range replicas {
				b = append(b, 3, byte(node))
			}
			b = append(b, times(2*replicas*(replicas-1), []byte{4, 0})...)
		}
		b = append(b, 4, 0) // there is none any more
		for node := range replicas {
			b = append(b, reads(byte(node))...)
		}
		if len(b) > bound {
			t.Fatalf("%d bytes", len(b))
		}
		lines := Run(b)
		if l := of(lines, "deliver"); l[len(l)-1] != "deliver none" {
			t.Fatal("messages are left")
		}
		told := of(lines, "client")
		per := len(of(Run(join([]byte{0}, reads(0))), "client"))
		for node := range replicas {
			from := len(told) - (replicas-node)*per
			for i, line := range told[from : from+per] {
				first := told[len(told)-replicas*per+i]
				if line[len("client 0 "):] != first[len("client 0 "):] {
					t.Fatalf("node %d tells %q, node 0 %q", node, line, first)
				}
			}
			last := lines[len(lines)-replicas:]
			if last[node][len("node 0 "):] != last[0][len("node 0 "):] {
				t.Fatalf("not all have seen the same: %q", last)
			}
			var all int
			fmt.Sscanf(last[0], "node 0 %d", &all)
			most = max(most, all)
		}
	}
	if most < 25 {
		t.Errorf("%d events at most: this tests too little", most)
	}
}

// P5: what is collected, and what is compacted right behind a sync, changes nothing that clients are told, nor what the
// nodes have seen.
func TestCollectingIsNeverSeen(t *testing.T) {
	differs := 0
	for seed := range dice(100) {
		s := seed*32452843 + 3
		replicas := 1 + s.roll(3)
		_, l, _ := aScript(&s, 200+s.roll(1500))
		with, without := []byte{byte(replicas - 1)}, []byte{byte(replicas - 1)}
		for _, e := range l {
			if e[0] == 9 || e[0] == 10 {
				continue
			}
			with, without = append(with, e...), append(without, e...)
			if e[0] == 2 {
				with = append(with, 9, e[1])
			}
			if s.roll(3) == 0 {
				with = append(with, 10, byte(s.roll(replicas)))
			}
		}
		if len(with) > bound {
			t.Fatalf("%d bytes", len(with))
		}
		a, b := Run(with), Run(without)
		if len(a) == len(b) {
			continue
		}
		differs++
		for _, start := range []string{"client", "ask", "deliver", "start", "node"} {
			if a, b := of(a, start), of(b, start); !slices.Equal(a, b) {
				t.Fatalf("%q\nwith collecting:\n%s\nwithout:\n%s", with, strings.Join(a, "\n"), strings.Join(b, "\n"))
			}
		}
	}
	if differs < 90 {
		t.Errorf("%d scripts: this tests too little", differs)
	}
}

// P3: what was fast is never lost; of what wasn't a beginning stays. What another one is told is fast.
func TestFastIsNeverLost(t *testing.T) {
	for kept := range 256 {
		for _, turn := range []byte{0, 1} {
			b := join([]byte{1}, times(3, says(0, "RPUSH l a")), []byte{2, 0}, times(4, says(0, "RPUSH l b")),
				[]byte{3, 1, 4, 0, 4, 0, 7, 0, byte(kept), byte(kept / 2), 0, turn, 8, 0}, says(0, "LRANGE l 0 -1"))
			l := Run(b)
			var has int
			fmt.Sscanf(l[len(l)-2], "node 0 %d", &has)
			if has < 3 || has > 7 || l[len(l)-1] != "node 1 3" {
				t.Fatalf("%d bytes kept: %q", kept, l[len(l)-2:])
			}
			told := of(l, "client 0 ok *")
			want := fmt.Sprintf("client 0 ok *%d||%s%s", has, strings.Repeat("$1||a||", 3), strings.Repeat("$1||b||", has-3))
			if len(told) != 1 || told[0] != want {
				t.Fatalf("%d bytes kept: %q, want %q", kept, told, want)
			}
		}
	}
}
