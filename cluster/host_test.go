package cluster

import (
	"math"
	"testing"

	"polyphony/api"
)

// P24.2: the commands that are whole are done, in order, and their replies stand one behind the other.
func TestClient(t *testing.T) {
	c := made(t, 2, topFile)
	says(t, c, 0, wires("SET k v", "GET k", "KEYS", "INCRBY n 5", "ZSCORE z a", "NO", "SMEMBERS k", "RPUSH l a"),
		"+OK|$1|v|*1|$1|k|:5|$-1|-ERR unknown|-WRONGTYPE|:1|")
	says(t, c, 0, "", "")
	says(t, c, 1, wire("KEYS"), "*0|")
	saw(t, c, 0, vv(0, 3), api.VV{})
	saw(t, c, 1, api.VV{}, api.VV{})
}

// P24.2: what isn't whole waits for the rest, on each node's connection for itself.
func TestPieces(t *testing.T) {
	c := made(t, 2, topFile)
	all := wires("SET k v", "GET k", "GET q")
	told := ""
	for i := range all {
		// The other node's client sends another piece at each time.
		told += c.Do(Step{Kind: Client, Node: 0, Bytes: all[i : i+1]}).Bytes
		says(t, c, 1, wire("KEYS")[:3+i%2], "")
		does(t, c, Step{Kind: Client, Node: 1, At: 1}, Answer{})
	}
	if want := lines("+OK|$1|v|$-1|"); told != want {
		t.Errorf("told %q, want %q", told, want)
	}
	says(t, c, 0, wire("GET k")+wire("SET k w")[:20], "$1|v|")
	says(t, c, 1, wire("SET k u")[:19], "")
	does(t, c, Step{Kind: Fsync}, Answer{})
	does(t, c, Step{Kind: Wall, N: 7}, Answer{})
	says(t, c, 1, wire("SET k u")[19:], "+OK|")
	says(t, c, 0, wire("SET k w")[20:]+wire("GET k"), "+OK|$1|w|")
	asks(t, c, 1, "GET k", "$1|u|")
}

// P24.2: where At isn't 0 the connection is a new one; otherwise it never is.
func TestNewConnection(t *testing.T) {
	for _, at := range []int{1, -1, 2, 256, math.MinInt, math.MaxInt} {
		c := made(t, 2, topFile)
		for node := range 2 {
			says(t, c, node, wire("SET k v")[:20], "")
		}
		does(t, c, Step{Kind: Client, At: at, Bytes: wire("KEYS") + wire("GET k")[:5]}, Answer{Bytes: "*0\r\n"})
		says(t, c, 0, wire("GET k")[5:], "$-1|")
		says(t, c, 1, wire("SET k v")[20:], "+OK|")
		says(t, c, 0, wire("KEYS")[:9], "")
		does(t, c, Step{Kind: Client, At: at}, Answer{})
		asks(t, c, 0, "KEYS", "*0|")
	}
}

// P24.2: an error of the connection is refused behind the replies, and the connection is a new one: what stood behind the
// error is gone.
func TestBrokenConnection(t *testing.T) {
	for _, x := range []struct{ bytes, word string }{
		{"*0\r\n", "long"}, {"*9\r\n", "long"}, {"*1\r\n$65\r\n", "long"},
		{"x", "form"}, {"*01", "form"}, {"*1\r\n*", "form"}, {"*1\r\n$1\r\nkk", "form"}, {"*\r", "form"}, {"*1234567", "form"}, {"-", "form"},
	} {
		for _, behind := range []string{"", "x", wire("SET q v"), wire("SET q v") + "x"} {
			c := made(t, 1, topFile)
			says(t, c, 0, wires("SET k v", "GET k")+x.bytes+behind, "+OK|$1|v|-ERR "+x.word+"|")
			asks(t, c, 0, "KEYS", "*1|$1|k|")
			saw(t, c, 0, vv(0, 1), api.VV{})
			// The same, where the error comes with a later piece: alone, or ahead of commands.
			says(t, c, 0, wire("GET k")+x.bytes[:len(x.bytes)-1], "$1|v|")
			says(t, c, 0, x.bytes[len(x.bytes)-1:]+behind, "-ERR "+x.word+"|")
			says(t, c, 0, x.bytes+behind, "-ERR "+x.word+"|")
			asks(t, c, 0, "GET k", "$1|v|")
		}
	}
}

// P24.2: a command's own error is no fault of the connection.
func TestCommandErrors(t *testing.T) {
	c := made(t, 1, topFile)
	says(t, c, 0, wires("GET", "INCRBY k 007", "NO k")+"*2\r\n$3\r\nGET\r\n$0\r\n\r\n"+wire("SET k v")[:9], "-ERR arity|-ERR int|-ERR unknown|-ERR arg|")
	says(t, c, 0, wire("SET k v")[9:], "+OK|")
}

// P24.2: each node's wall shows what it was told, 0 at first, whatever befalls the node.
func TestWall(t *testing.T) {
	c := made(t, 3, topFile)
	// Two set a key side by side: the one whose wall shows more wins, whatever their numbers are.
	times := func(a, b int, want string) {
		t.Helper()
		c := made(t, 2, topFile)
		does(t, c, Step{Kind: Wall, Node: 0, N: a}, Answer{})
		does(t, c, Step{Kind: Wall, Node: 1, N: b}, Answer{})
		for at := range 2 {
			asks(t, c, at, "SET k "+[]string{"a", "b"}[at], "+OK|")
			does(t, c, Step{Kind: Fsync, Node: at}, Answer{})
		}
		does(t, c, Step{Kind: Ask, Node: 1}, Answer{N: 1})
		does(t, c, Step{Kind: Deliver}, Answer{N: 1})
		does(t, c, Step{Kind: Deliver}, Answer{})
		asks(t, c, 1, "GET k", "$1|"+want+"|")
	}
	times(0, 0, "b")
	times(1, 0, "a")
	times(1, 1, "b")
	times(1, 2, "b")
	times(topWall, topWall-1, "a")
	times(5, -1+6, "b")
	for _, wall := range []int{-1, topWall + 1, math.MinInt, math.MaxInt} {
		does(t, c, Step{Kind: Wall, Node: 1, N: wall}, Answer{})
		says(t, c, 1, wires("SET k v", "KEYS", "SET k v"), "-ERR arg|*0|-ERR arg|")
		asks(t, c, 0, "SET k v", "+OK|")
		does(t, c, Step{Kind: Crash, Node: 1}, Answer{})
		does(t, c, Step{Kind: Start, Node: 1}, Answer{})
		asks(t, c, 1, "SET k v", "-ERR arg|")
		// It may go back, and it may be told while the node is down.
		does(t, c, Step{Kind: Crash, Node: 1}, Answer{})
		does(t, c, Step{Kind: Wall, Node: 1, N: 3}, Answer{})
		does(t, c, Step{Kind: Start, Node: 1}, Answer{})
		asks(t, c, 1, "SET q v", "+OK|")
		does(t, c, Step{Kind: Crash, Node: 1}, Answer{})
		does(t, c, Step{Kind: Start, Node: 1}, Answer{})
	}
}

// P24.2: Fsync lets what one node has seen be fast.
func TestFsync(t *testing.T) {
	c := made(t, 2, topFile)
	for at := range 2 {
		asks(t, c, at, "SET k v", "+OK|")
	}
	does(t, c, Step{Kind: Fsync, Node: 1}, Answer{})
	saw(t, c, 0, vv(0, 1), api.VV{})
	saw(t, c, 1, vv(1, 1), vv(1, 1))
	does(t, c, Step{Kind: Crash, Node: 0}, Answer{})
	does(t, c, Step{Kind: Fsync, Node: 0}, Answer{})
	isDown(t, c, 0)
}

// P24.4: a crash takes the connection along; what wasn't fast is left as far as N, At and Turn say.
func TestCrash(t *testing.T) {
	base := func() *Cluster {
		c := made(t, 2, topFile)
		says(t, c, 0, wires("SET k a", "SET k b"), "+OK|+OK|")
		does(t, c, Step{Kind: Fsync}, Answer{})
		says(t, c, 0, wires("SET k c", "SET k d")+wire("SET k e")[:20], "+OK|+OK|")
		return c
	}
	for _, x := range []struct {
		s    Step
		want string
		seen int
	}{
		{Step{}, "b", 2}, {Step{N: -1}, "b", 2}, {Step{N: 1}, "b", 2}, {Step{N: math.MaxInt}, "d", 4}, {Step{N: 1000}, "d", 4},
		{Step{N: 50}, "c", 3}, {Step{N: 1000, At: 0, Turn: 1}, "b", 2}, {Step{N: 1000, At: 8 * 50, Turn: 1}, "c", 3}, {Step{N: 1000, At: 8 * 50, Turn: 65536}, "d", 4},
	} {
		c := base()
		x.s.Kind = Crash
		does(t, c, x.s, Answer{})
		isDown(t, c, 0)
		saw(t, c, 1, api.VV{}, api.VV{})
		does(t, c, Step{Kind: Start}, Answer{})
		saw(t, c, 0, vv(0, x.seen), vv(0, x.seen))
		says(t, c, 0, wire("GET k"), "$1|"+x.want+"|")
	}
}

// P24.2, P24.4: a node that is down refuses what clients ask; its connection is there all the same. A crash of it once more
// is only one of the connection.
func TestDown(t *testing.T) {
	c := made(t, 2, topFile)
	asks(t, c, 0, "SET k v", "+OK|")
	does(t, c, Step{Kind: Fsync}, Answer{})
	does(t, c, Step{Kind: Crash, N: 9}, Answer{})
	says(t, c, 0, wires("GET k", "NO")+"*0\r\n"+wire("GET k"), "-ERR down|-ERR down|-ERR long|")
	says(t, c, 0, wire("GET k")[:9], "")
	for _, kind := range []int{Fsync, Ask, Collect} {
		does(t, c, Step{Kind: kind}, Answer{})
	}
	does(t, c, Step{Kind: Compact}, Answer{Err: api.ErrState})
	flies(t, c, 0)
	does(t, c, Step{Kind: Start}, Answer{})
	says(t, c, 0, wire("GET k")[9:], "$1|v|")
	does(t, c, Step{Kind: Start}, Answer{Err: api.ErrState})
	does(t, c, Step{Kind: Crash}, Answer{})
	says(t, c, 0, wire("GET k")[:9], "")
	does(t, c, Step{Kind: Crash}, Answer{})
	asks(t, c, 0, "GET k", "-ERR down|")
	says(t, c, 0, wire("GET k")[:9], "")
	does(t, c, Step{Kind: Start}, Answer{})
	says(t, c, 0, wire("GET k")[9:], "$1|v|")
	// A start that can't be leaves the connection as it is, too.
	says(t, c, 0, wire("GET k")[:9], "")
	does(t, c, Step{Kind: Start}, Answer{Err: api.ErrState})
	says(t, c, 0, wire("GET k")[9:], "$1|v|")
}

// P24.4: Compact tells the node's error, Collect how many events others need no more.
func TestCompactAndCollect(t *testing.T) {
	c := made(t, 2, 200)
	for range 3 {
		asks(t, c, 0, "RPUSH l a", ":"+string(rune('1'+seen(c, 0)))+"|")
	}
	asks(t, c, 0, "LREM l 2", ":1|")
	does(t, c, Step{Kind: Compact}, Answer{Err: api.ErrFull})
	saw(t, c, 0, vv(0, 4), api.VV{})
	does(t, c, Step{Kind: Compact, Node: 1}, Answer{})
	does(t, c, Step{Kind: Fsync}, Answer{})
	does(t, c, Step{Kind: Collect}, Answer{})
	keeps(t, c, 0, 4, 1)
	// The other one learns of all, and tells so.
	does(t, c, Step{Kind: Ask, Node: 1}, Answer{N: 1})
	does(t, c, Step{Kind: Deliver}, Answer{N: 1})
	does(t, c, Step{Kind: Deliver}, Answer{})
	does(t, c, Step{Kind: Fsync, Node: 1}, Answer{})
	does(t, c, Step{Kind: Collect}, Answer{})
	does(t, c, Step{Kind: Ask, Node: 1}, Answer{N: 1})
	does(t, c, Step{Kind: Deliver}, Answer{N: 1})
	does(t, c, Step{Kind: Collect}, Answer{N: 4})
	keeps(t, c, 0, 0, 0)
	keeps(t, c, 1, 4, 1)
	does(t, c, Step{Kind: Collect}, Answer{})
	does(t, c, Step{Kind: Compact}, Answer{})
	asks(t, c, 0, "LRANGE l 0 -1", "*2|$1|a|$1|a|")
	does(t, c, Step{Kind: Deliver}, Answer{})
	does(t, c, Step{Kind: Collect, Node: 1}, Answer{N: 4})
	keeps(t, c, 1, 0, 0)
}

// seen is how many events a node has seen.
func seen(c *Cluster, at int) int {
	all, _, _ := c.Seen(at)
	n := 0
	for _, of := range all {
		n += of
	}
	return n
}
