package node

import (
	"testing"

	"polyphony/aof"
	"polyphony/api"
	"polyphony/space"
)

// P23.4: Compact lets all that was seen be fast; behind a crash and a start all is as it was.
func TestCompact(t *testing.T) {
	n := made(t, 0, 2, topFile)
	compacts(t, n, api.OK)
	asks(t, n, "SET k v", "+OK|")
	lets(t, n, 1, row(1, 2)...)
	asks(t, n, "RPUSH l a", ":1|")
	asks(t, n, "RPUSH l b", ":2|")
	asks(t, n, "LREM l 0", ":1|")
	saw(t, n, vv(0, 4, 1, 2), api.VV{})
	for range 2 {
		compacts(t, n, api.OK)
		saw(t, n, vv(0, 4, 1, 2), vv(0, 4, 1, 2))
		keeps(t, n, 6, 1)
		before := has(t, n, 1, api.VV{})
		again(t, n, 0, 0, 0)
		saw(t, n, vv(0, 4, 1, 2), vv(0, 4, 1, 2))
		keeps(t, n, 6, 1)
		asks(t, n, "LRANGE l 0 -1", "*1|$1|b|")
		asks(t, n, "GET k", "$1|v|")
		if behind := has(t, n, 1, api.VV{}); !sameMsg(before, behind) || len(behind.Events) != 6 {
			t.Fatalf("told\n%v\nand behind the start\n%v", before, behind)
		}
	}
	// What comes behind it isn't fast, and is laid behind the others.
	asks(t, n, "SET k w", "+OK|")
	saw(t, n, vv(0, 5, 1, 2), vv(0, 4, 1, 2))
	keeps(t, n, 7, 1)
	again(t, n, topFile, 0, 0)
	keeps(t, n, 7, 1)
	asks(t, n, "GET k", "$1|w|")
	again(t, n, 0, 0, 0)
	saw(t, n, vv(0, 5, 1, 2), vv(0, 5, 1, 2))
}

// P23.4: the log is just the space's text, and the events that others may lack.
func TestLogIsRewritten(t *testing.T) {
	n := made(t, 0, 2, topFile)
	seen := space.New()
	for i, words := range []string{"SET k v", "RPUSH l a", "RPUSH l b", "LREM l 0"} {
		does(t, n, 1, words, []string{"+OK|", ":1|", ":2|", ":1|"}[i])
	}
	n.Sync()
	l := has(t, n, 1, vv(0, 2)).Events
	for _, e := range append(has(t, n, 1, api.VV{}).Events[:2], l...) {
		if fault := seen.Apply(e); fault != api.OK {
			t.Fatalf("it isn't ready: %d", fault)
		}
	}
	collects(t, n, 2, 0)
	compacts(t, n, api.OK)
	n.Crash(0, 0, 0)
	log, _ := aof.Open(n.disk)
	if text, has := log.Snapshot(); !has || text != seen.Encode() {
		t.Errorf("the snapshot is %q, want %q", text, seen.Encode())
	}
	if got := log.Events(); len(got) != 2 || got[0] != l[0] || got[1] != l[1] {
		t.Errorf("the events are %v, want %v", got, l)
	}
}

// P23.4: where the disk has no room for it Compact is refused, and changes nothing.
func TestCompactFull(t *testing.T) {
	e := ev(0, 1, 5*65536, api.VV{}, set("k", "v"))
	text := space.New()
	if text.Apply(e) != api.OK {
		t.Fatal("it isn't ready")
	}
	room := len(text.Encode()) + 7 + size(e)
	n := made(t, 0, 1, room-1)
	asks(t, n, "SET k v", "+OK|")
	for range 2 {
		compacts(t, n, api.ErrFull)
		saw(t, n, vv(0, 1), api.VV{})
		keeps(t, n, 1, 0)
	}
	again(t, n, 0, 0, 0)
	saw(t, n, api.VV{}, api.VV{})

	n = made(t, 0, 1, room)
	asks(t, n, "SET k v", "+OK|")
	compacts(t, n, api.OK)
	saw(t, n, vv(0, 1), vv(0, 1))
	asks(t, n, "SET k v", "-ERR full|")
	n.Sync()
	collects(t, n, 1, 0)
	compacts(t, n, api.OK)
	keeps(t, n, 0, 0)
	// There is room again for as many bytes as that event had.
	asks(t, n, "SET k w", "+OK|")
	asks(t, n, "SET k x", "-ERR full|")
}

// P23.4: a space whose text is too long for a log is told by the log's error, and nothing is changed.
func TestCompactLong(t *testing.T) {
	s := space.New()
	items := 0
	for ; items < 2240; items++ {
		if e := s.Apply(ev(1, items+1, 9, api.VV{}, push("v", api.Dot{}))); e != api.OK {
			t.Fatalf("item %d isn't ready: %d", items, e)
		}
	}
	n := made(t, 0, 2, topFile)
	lay(t, n, s.Encode())
	// Each item is a dead one then, which takes some bytes more.
	does(t, n, 1, "DEL l", ":1|")
	if long := len(n.life.space.Encode()); long <= 65528 || len(s.Encode()) > 65000 {
		t.Fatalf("the text has %d bytes, ahead of it %d: this tests nothing", long, len(s.Encode()))
	}
	for range 2 {
		compacts(t, n, api.ErrLong)
		saw(t, n, vv(0, 1, 1, items), vv(1, items))
		keeps(t, n, 1, items)
	}
	n.Sync()
	takes(t, n, Msg{From: 1, To: 0, Seen: vv(0, 1, 1, items)})
	collects(t, n, 1, items)
	compacts(t, n, api.OK)
	asks(t, n, "KEYS", "*0|")
}

// P23.4: one that is alone collects just what is fast.
func TestCollectAlone(t *testing.T) {
	n := lone(t)
	asks(t, n, "RPUSH l a", ":1|")
	asks(t, n, "RPUSH l b", ":2|")
	asks(t, n, "LREM l 1", ":1|")
	collects(t, n, 0, 0)
	keeps(t, n, 3, 1)
	n.Sync()
	asks(t, n, "LREM l 0", ":1|")
	keeps(t, n, 4, 2)
	collects(t, n, 3, 1)
	keeps(t, n, 1, 1)
	collects(t, n, 0, 0)
	n.Sync()
	collects(t, n, 1, 1)
	keeps(t, n, 0, 0)
	asks(t, n, "KEYS", "*0|")
	// None of that is in the log: a start finds what it had.
	again(t, n, 0, 0, 0)
	saw(t, n, vv(0, 4), vv(0, 4))
	keeps(t, n, 4, 2)
	collects(t, n, 4, 2)
	compacts(t, n, api.OK)
	again(t, n, 0, 0, 0)
	saw(t, n, vv(0, 4), vv(0, 4))
	keeps(t, n, 0, 0)
}

// P23.4: of several replicas that is collected which all of them have fast, be it told by a question or an answer.
func TestCollectAmongSeveral(t *testing.T) {
	n := made(t, 1, 3, topFile)
	for _, words := range []string{"RPUSH l a", "LREM l 0", "SET k v", "SET k w"} {
		n.Command([]string{"DEL", "nothing"}, 1)
		if r := told(n.Command(fields(words), 1)); r[0] == '-' {
			t.Fatalf("%s: %s", words, r)
		}
	}
	n.Sync()
	collects(t, n, 0, 0)
	takes(t, n, Msg{From: 0, To: 1, Seen: vv(1, 4)})
	collects(t, n, 0, 0)
	has(t, n, 2, vv(1, 1))
	collects(t, n, 1, 0)
	keeps(t, n, 3, 1)
	takes(t, n, Msg{From: 2, To: 1, Seen: vv(1, 2)})
	collects(t, n, 1, 1)
	// What was told stays, though less is told by a message that was late.
	takes(t, n, Msg{From: 2, To: 1, Seen: vv(1, 3)})
	takes(t, n, Msg{From: 2, To: 1, Seen: vv(1, 1)})
	collects(t, n, 1, 0)
	keeps(t, n, 1, 0)
	saw(t, n, vv(1, 4), vv(1, 4))
}

// P23.4: as long as one is known to have made more than was seen here nothing is collected.
func TestCollectWaits(t *testing.T) {
	n := made(t, 0, 2, topFile)
	asks(t, n, "SET k v", "+OK|")
	n.Sync()
	l := row(1, 2)
	takes(t, n, Msg{From: 1, To: 0, Seen: vv(0, 1, 1, 2), Events: l[:1]})
	collects(t, n, 0, 0)
	lets(t, n, 1, l[1])
	collects(t, n, 1, 0)
	n.Sync()
	collects(t, n, 2, 0)
	keeps(t, n, 0, 0)
}

// P23.4: what isn't fast here isn't collected, though others have it fast.
func TestCollectWhatIsFast(t *testing.T) {
	n := made(t, 0, 2, topFile)
	takes(t, n, Msg{From: 1, To: 0, Seen: vv(1, 3), Events: row(1, 3)})
	collects(t, n, 0, 0)
	n.Sync()
	collects(t, n, 3, 0)
	takes(t, n, Msg{From: 1, To: 0, Seen: vv(1, 5), Events: append(row(1, 5)[3:], api.Event{})})
	collects(t, n, 0, 0)
	compacts(t, n, api.OK)
	collects(t, n, 2, 0)
	keeps(t, n, 0, 0)
}
