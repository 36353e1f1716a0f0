package node

import (
	"math"
	"reflect"
	"testing"

	"polyphony/aof"
	"polyphony/api"
	"polyphony/space"
	"polyphony/vlq"
)

// The document's examples.
func TestExamples(t *testing.T) {
	n := lone(t)
	asks(t, n, "SET k v", "+OK|")
	again(t, n, 0, 0, 0)
	asks(t, n, "GET k", "$-1|")
	asks(t, n, "SET k v", "+OK|")
	n.Sync()
	again(t, n, 0, 0, 0)
	asks(t, n, "GET k", "$1|v|")
}

// P23.1: New of just the numbers that may be.
func TestNew(t *testing.T) {
	numbers := []int{math.MinInt, -17, -1, 0, 1, 2, 3, 8, 14, 15, 16, 17, 32, 1 << 32, math.MaxInt}
	for _, replicas := range numbers {
		for _, self := range numbers {
			n, e := New(self, replicas, topFile)
			if replicas < 1 || replicas > 16 || self < 0 || self > replicas-1 {
				if n != nil || e != api.ErrArg {
					t.Fatalf("New(%d, %d): %v, %d", self, replicas, n, e)
				}
				continue
			}
			if n == nil || e != api.OK || !n.Up() {
				t.Fatalf("New(%d, %d): %v, %d", self, replicas, n, e)
			}
			saw(t, n, api.VV{}, api.VV{})
			keeps(t, n, 0, 0)
			collects(t, n, 0, 0)
			asks(t, n, "KEYS", "*0|")
			if l := n.Ask(); len(l) != replicas-1 {
				t.Fatalf("New(%d, %d): asks %d", self, replicas, len(l))
			}
			asks(t, n, "SET k v", "+OK|")
			saw(t, n, vv(self, 1), api.VV{})
		}
	}
}

// P23.1: the disk has just the room that was told, held from 0 to MaxFile.
func TestRoom(t *testing.T) {
	first := ev(0, 1, 5*65536, api.VV{}, set("k", "v"))
	for _, room := range []int{math.MinInt, -1, 0, 1, size(first) - 1} {
		n := made(t, 0, 1, room)
		asks(t, n, "SET k v", "-ERR full|")
		saw(t, n, api.VV{}, api.VV{})
	}
	n := made(t, 0, 1, size(first))
	asks(t, n, "SET k v", "+OK|")
	asks(t, n, "SET k v", "-ERR full|")

	for _, room := range []int{topFile - 1, topFile, topFile + 1, 2 * topFile, math.MaxInt} {
		n := made(t, 1, 2, room)
		var fill []api.Event
		for left := min(room, topFile); ; {
			i := len(fill) + 1
			e := ev(0, i, 9, api.VV{}, set("k", many(64, "v")))
			if size(e) > left {
				// The last one fits to the byte; one byte more and it would not.
				short := left - size(ev(0, i, 9, api.VV{}, set("k", "")))
				if short >= 0 {
					fill = append(fill, ev(0, i, 9, api.VV{}, set("k", many(short, "w"))))
				}
				break
			}
			left -= size(e)
			fill = append(fill, e)
		}
		lets(t, n, 0, append(fill, ev(0, len(fill)+1, 9, api.VV{}, set("k", "")))...)
		saw(t, n, vv(0, len(fill)), api.VV{})
	}
}

// P23.1: what a node that is down answers, and that none of it is to be seen later on.
func TestDown(t *testing.T) {
	n := made(t, 1, 3, topFile)
	asks(t, n, "SET k v", "+OK|")
	lets(t, n, 0, row(0, 2)...)
	n.Sync()
	asks(t, n, "SET k w", "+OK|")
	n.Crash(0, 0, 0)
	for range 2 {
		isDown(t, n)
		if n.Up() {
			t.Fatal("up")
		}
		n.Crash(9, 9, 9)
	}
	if e := n.Start(); e != api.OK {
		t.Fatalf("Start: %d", e)
	}
	saw(t, n, vv(0, 2, 1, 1), vv(0, 2, 1, 1))
	keeps(t, n, 3, 0)
	// What was told while it was down would have let all be collected.
	collects(t, n, 0, 0)
	asks(t, n, "GET k", "$1|v|")
}

// isDown holds all that a node answers against what one answers that is down.
func isDown(t *testing.T, n *Node) {
	t.Helper()
	for _, words := range []string{"", "NOPE", "GET", "GET k", "KEYS", "SET k v", "INCRBY k x"} {
		for _, wall := range []int{-1, 0, 5, topWall, topWall + 1, math.MinInt, math.MaxInt} {
			does(t, n, wall, words, "-ERR down|")
		}
	}
	compacts(t, n, api.ErrState)
	n.Sync()
	if l := n.Ask(); len(l) != 0 {
		t.Fatalf("Ask: %v", l)
	}
	for from := range 4 {
		for to := range 4 {
			takes(t, n, Msg{From: from, To: to, Seen: all(9)})
			takes(t, n, Msg{From: from, To: to, Ask: true, Seen: all(9), Events: row(from, 9)})
		}
	}
	collects(t, n, 0, 0)
	saw(t, n, api.VV{}, api.VV{})
	keeps(t, n, 0, 0)
}

// P23.7: a nil node, and the zero one, are as one that is down, for good.
func TestNil(t *testing.T) {
	for _, n := range []*Node{nil, {}, new(Node)} {
		for range 3 {
			isDown(t, n)
			if n.Up() {
				t.Fatal("up")
			}
			if e := n.Start(); e != api.ErrState {
				t.Fatalf("Start: %d", e)
			}
			n.Crash(1, 2, 3)
		}
	}
}

// P23.5: Start of one that is up is refused, and changes nothing.
func TestStartTwice(t *testing.T) {
	n := lone(t)
	asks(t, n, "SET k v", "+OK|")
	for range 2 {
		if e := n.Start(); e != api.ErrState || !n.Up() {
			t.Fatalf("Start: %d", e)
		}
		saw(t, n, vv(0, 1), api.VV{})
		keeps(t, n, 1, 0)
	}
	again(t, n, 0, 0, 0)
	saw(t, n, api.VV{}, api.VV{})
}

// P23.5, P23.6: a crash keeps of what wasn't fast just what lies whole in the bytes that are kept, ahead of the bits
// that were turned; and what is found counts as fast.
func TestCrash(t *testing.T) {
	l := []api.Event{
		ev(0, 1, 5*65536, api.VV{}, set("a", "v")),
		ev(0, 2, 5*65536+1, api.VV{}, set("b", "v")),
		ev(0, 3, 5*65536+2, api.VV{}, set("c", "v")),
	}
	one, two, three := sizes(l[:1]...), sizes(l[:2]...), sizes(l...)
	for _, c := range []struct{ keep, at, turn, found int }{
		{math.MinInt, 0, 0, 0}, {-1, 5, 65535, 0}, {0, 0, 65535, 0}, {1, 0, 65535, 0}, {one - 1, 0, 0, 0},
		{one, 0, 0, 1}, {one + 1, 7, 65536, 1}, {two - 1, 0, 0, 1}, {two, 9, 0, 2}, {two + 1, 9, 0, 2},
		{three - 1, 0, 0, 2}, {three, 0, 0, 3}, {three + 1, 0, 0, 3}, {math.MaxInt, 0, 0, 3}, {three, 77, -65536, 3},
		{three, 0, 1, 0}, {three, 8*one - 16, 1, 0}, {three, 8*one - 16, 32768, 0}, {three, 8 * one, 32768, 1},
		{three, 8*one - 1, 1, 1}, {three, 8*one - 1, 32768, 0}, {three, 8 * two, 65535, 2}, {three, -1, 1, 2},
		{three, 8*three - 15, 32768, 0}, {two, 8 * two, 1, 0}, {two, -1, 1, 1}, {two + 2, 8 * two, 65535, 2},
	} {
		n := lone(t)
		for _, key := range []string{"a", "b", "c"} {
			asks(t, n, "SET "+key+" v", "+OK|")
		}
		again(t, n, c.keep, c.at, c.turn)
		saw(t, n, vv(0, c.found), vv(0, c.found))
		keeps(t, n, c.found, 0)
		for i, key := range []string{"a", "b", "c"} {
			want := "$1|v|"
			if i >= c.found {
				want = "$-1|"
			}
			asks(t, n, "GET "+key, want)
		}
		// They are fast: another crash takes none of them away.
		again(t, n, 0, 0, 0)
		saw(t, n, vv(0, c.found), vv(0, c.found))
		asks(t, n, "SET d v", "+OK|")
		saw(t, n, vv(0, c.found+1), vv(0, c.found))
	}
}

// P23.5: behind a start the clock stands at the greatest time that was seen, the buffer is empty, and the matrix knows
// nothing of others.
func TestStartsAnew(t *testing.T) {
	n := made(t, 1, 3, topFile)
	lets(t, n, 0, ev(0, 1, 1000, api.VV{}, set("k", "v")), ev(0, 3, 3000, api.VV{}, set("k", "w")))
	does(t, n, 0, "SET l v", "+OK|")
	n.Sync()
	does(t, n, 0, "SET m v", "+OK|")
	takes(t, n, Msg{From: 0, To: 1, Seen: vv(0, 1, 1, 1)})
	takes(t, n, Msg{From: 2, To: 1, Seen: vv(0, 1, 1, 1)})
	again(t, n, 0, 0, 0)
	collects(t, n, 0, 0)
	// The third one was in the buffer, and isn't any more.
	lets(t, n, 0, ev(0, 2, 900, api.VV{}, set("k", "x")))
	saw(t, n, vv(0, 2, 1, 1), vv(0, 1, 1, 1))
	does(t, n, 0, "SET m v", "+OK|")
	n.Sync()
	m := has(t, n, 0, vv(0, 2, 1, 1))
	if want := ev(1, 2, 1002, vv(0, 2), set("m", "v")); len(m.Events) != 1 || m.Events[0] != want {
		t.Fatalf("told %v, want %v", m.Events, want)
	}
	takes(t, n, Msg{From: 2, To: 1, Seen: vv(0, 1, 1, 1)})
	collects(t, n, 2, 0)
}

// lay lets a node's disk have a log of its own, as if it had been found there.
func lay(t *testing.T, n *Node, snapshot string, l ...api.Event) {
	t.Helper()
	n.Crash(0, 0, 0)
	log, e := aof.Open(n.disk)
	if e == api.OK {
		e = log.Rewrite(snapshot, l)
	}
	if e == api.OK {
		e = n.Start()
	}
	if e != api.OK {
		t.Fatalf("it isn't laid: %d", e)
	}
}

// textOf is the text of a space that has seen so many events, and has none of them.
func textOf(v api.VV, time int) string {
	var b []byte
	for _, n := range v {
		b = vlq.Put(b, uint64(n))
	}
	b = vlq.Put(b, uint64(time))
	return string(append(b, 0, 0))
}

// Of what is found in a log, those events are kept that the snapshot has seen, or that are ready one behind the other.
func TestWhatIsFound(t *testing.T) {
	of := func(r, n int, deps api.VV) api.Event { return ev(r, n, 10*n, deps, set("k", many(n, "v"))) }
	found := []api.Event{
		of(1, 1, api.VV{}),  // seen
		of(0, 2, api.VV{}),  // ready
		of(0, 4, api.VV{}),  // neither: the third one is missing
		of(2, 1, vv(1, 3)),  // neither: of replica 1 two were seen
		of(1, 2, vv(0, 50)), // seen, whatever it has seen
		of(0, 2, api.VV{}),  // seen by now
		of(0, 3, vv(1, 2)),  // ready
	}
	n := made(t, 0, 3, topFile)
	lay(t, n, textOf(vv(0, 1, 1, 2), 77), found...)
	saw(t, n, vv(0, 3, 1, 2), vv(0, 3, 1, 2))
	keeps(t, n, 5, 0)
	m := has(t, n, 2, api.VV{})
	want := Msg{From: 0, To: 2, Seen: vv(0, 3, 1, 2), Events: []api.Event{found[0], found[1], found[4], found[5], found[6]}}
	if !sameMsg(m, want) {
		t.Fatalf("told\n%v\nwant\n%v", m, want)
	}
	asks(t, n, "GET k", "$3|vvv|")
	does(t, n, 0, "SET k w", "+OK|")
	n.Sync()
	if l := has(t, n, 2, vv(0, 3, 1, 2)).Events; len(l) != 1 || l[0].Time != 78 {
		t.Fatalf("the clock stood elsewhere: %v", l)
	}
}

// A snapshot that isn't a space's counts as none: all that stands behind it is to be ready from nothing on.
func TestNoSpace(t *testing.T) {
	good := textOf(vv(0, 1, 1, 2), 77)
	if _, e := space.Decode(good); e != api.OK {
		t.Fatalf("it is no space's: %d", e)
	}
	for _, text := range []string{"", "x", good[:len(good)-1], good + "\x00", textOf(vv(0, topSeq+1), 0), textOf(api.VV{}, topTime+1)} {
		n := made(t, 0, 2, topFile)
		l := append(row(1, 1), ev(1, 3, 9, api.VV{}, set("k", "w")))
		lay(t, n, text, l...)
		saw(t, n, vv(1, 1), vv(1, 1))
		keeps(t, n, 1, 0)
		asks(t, n, "GET k", "$1|v|")
	}
}

// Ways: a node's life is a struct behind a pointer, nil while it is down.
func TestWays(t *testing.T) {
	of := reflect.TypeFor[Node]()
	f, ok := of.FieldByName("life")
	if !ok || f.Type.Kind() != reflect.Pointer || f.Type.Elem().Kind() != reflect.Struct {
		t.Fatalf("a node's life is a %v", f.Type)
	}
	n := lone(t)
	if n.life == nil {
		t.Error("up, without a life")
	}
	n.Crash(0, 0, 0)
	if n.life != nil {
		t.Error("down, with a life")
	}
}
