package node

import (
	"math"
	"slices"
	"strings"
	"testing"

	"polyphony/api"
)

// tells holds all that a node tells one that has seen nothing against the events that it shall have made.
func tells(t *testing.T, n *Node, want ...api.Event) {
	t.Helper()
	n.Sync()
	m := has(t, n, (n.self+1)%n.replicas, api.VV{})
	if !slices.Equal(m.Events, want) {
		t.Fatalf("told\n%v\nwant\n%v", m.Events, want)
	}
}

// P23.2: a command that is none is refused by its error's word, and nothing is done, whatever the wall shows.
func TestRefused(t *testing.T) {
	n := made(t, 0, 2, topFile)
	for _, wall := range []int{0, 5, -1, topWall + 1} {
		for _, c := range []struct {
			args []string
			want string
		}{
			{nil, "arity"}, {[]string{}, "arity"}, {[]string{""}, "unknown"}, {[]string{"NOPE", "k"}, "unknown"},
			{[]string{"SET", "k"}, "arity"}, {[]string{"GET"}, "arity"}, {[]string{"KEYS", "k"}, "arity"},
			{[]string{"SET", "", "v"}, "arg"}, {[]string{"SET", many(65, "k"), "v"}, "long"},
			{[]string{"SET", "k", many(65, "v")}, "long"}, {[]string{"HSET", "k", many(65, "f"), "v"}, "long"},
			{[]string{"INCRBY", "k", "x"}, "int"}, {[]string{"INCRBY", "k", "007"}, "int"},
			{[]string{"LINSERT", "k", "-0", "v"}, "int"}, {[]string{"ZADD", "k", "", "f"}, "int"},
		} {
			if got := told(n.Command(c.args, wall)); got != "-ERR "+c.want+"|" {
				t.Fatalf("%q at %d: %q, want %s", c.args, wall, got, c.want)
			}
		}
	}
	n.Sync()
	saw(t, n, api.VV{}, api.VV{})
	keeps(t, n, 0, 0)
	asks(t, n, "SET k v", "+OK|")
	tells(t, n, ev(0, 1, 5*65536, api.VV{}, set("k", "v")))
}

// P23.2: where there is nothing to do the answer is the plan's, no event is made, and the clock isn't asked.
func TestNothingToDo(t *testing.T) {
	n := made(t, 0, 2, topFile)
	for _, words := range []string{"SET text v", "INCRBY tally 3", "SADD group a", "HSET hash f v", "ZADD score 7 a", "RPUSH list x"} {
		if got := n.Command(strings.Fields(words), 0); got.Kind == 2 {
			t.Fatalf("%s: %v", words, got)
		}
	}
	n.Sync()
	for _, wall := range []int{0, 900, -1, topWall, topWall + 1, math.MinInt, math.MaxInt} {
		for words, want := range map[string]string{
			"get text": "$1|v|", "GET gone": "$-1|", "COUNT tally": ":3|", "SISMEMBER group a": ":1|", "SMEMBERS group": "*1|$1|a|",
			"HGET hash f": "$1|v|", "HGETALL hash": "*2|$1|f|$1|v|", "ZSCORE score a": "$1|7|", "ZRANK score a": ":0|",
			"ZRANGE score 0 -1": "*1|$1|a|", "LRANGE list 0 -1": "*1|$1|x|", "TYPE list": "+list|",
			"KEYS":       "*6|$5|group|$4|hash|$4|list|$5|score|$5|tally|$4|text|",
			"SET list v": "-WRONGTYPE|", "INCRBY text 1": "-WRONGTYPE|", "RPUSH hash v": "-WRONGTYPE|",
			"INCRBY tally 1099511627777": "-OVERFLOW|", "ZADD score -1099511627777 a": "-OVERFLOW|",
			"LINSERT list 2 v": "-RANGE|", "LINSERT list -1 v": "-RANGE|",
			"SADD group a": ":0|", "SREM group b": ":0|", "HDEL hash g": ":0|", "ZREM score b": ":0|", "LREM list 1": ":0|",
			"DEL gone": ":0|",
		} {
			does(t, n, wall, words, want)
		}
	}
	saw(t, n, vv(0, 6), vv(0, 6))
	keeps(t, n, 6, 0)
	does(t, n, 0, "DEL text", ":1|")
	n.Sync()
	if l := has(t, n, 1, vv(0, 6)).Events; len(l) != 1 || l[0].Time != 7 {
		t.Fatalf("the clock ticked: %v", l)
	}
}

// P23.2: each command that does something makes the event of its operation: the next dot, the clock's time, and what
// was seen.
func TestEvents(t *testing.T) {
	op := func(kind int, key, field, value string, num int, ref api.Dot) api.Op {
		return api.Op{Kind: kind, Key: key, Field: field, Value: value, Num: num, Ref: ref}
	}
	none := api.Dot{}
	steps := []struct {
		wall            int
		words, want     string
		time, elsewhere int // how many events of replica 0 were seen
		op              api.Op
	}{
		{5, "SET k v", "+OK|", 5 * 65536, 0, op(api.Set, "k", "", "v", 0, none)},
		{5, "INCRBY n -3", ":-3|", 5*65536 + 1, 0, op(api.Incr, "n", "", "", -3, none)},
		{4, "SADD g a", ":1|", 5*65536 + 2, 1, op(api.SAdd, "g", "a", "", 0, none)},
		{0, "SREM g a", ":1|", 5*65536 + 3, 1, op(api.SRem, "g", "a", "", 0, none)},
		{6, "HSET h f v", ":1|", 6 * 65536, 1, op(api.HSet, "h", "f", "v", 0, none)},
		{7, "HDEL h f", ":1|", 7 * 65536, 2, op(api.HDel, "h", "f", "", 0, none)},
		{7, "ZADD z 9 a", ":1|", 7*65536 + 1, 3, op(api.ZAdd, "z", "a", "", 9, none)},
		{7, "ZREM z a", ":1|", 7*65536 + 2, 3, op(api.ZRem, "z", "a", "", 0, none)},
		{7, "RPUSH l x", ":1|", 7*65536 + 3, 3, op(api.Push, "l", "", "x", 0, none)},
		{7, "RPUSH l y", ":2|", 7*65536 + 4, 3, op(api.Push, "l", "", "y", 0, api.Dot{R: 1, N: 9})},
		{7, "LPUSH l z", ":3|", 7*65536 + 5, 3, op(api.Push, "l", "", "z", 0, none)},
		{7, "LINSERT l 1 w", ":4|", 7*65536 + 6, 3, op(api.Push, "l", "", "w", 0, api.Dot{R: 1, N: 11})},
		{7, "LREM l 2", ":1|", 7*65536 + 7, 4, op(api.LRem, "l", "", "", 0, api.Dot{R: 1, N: 9})},
		{8, "del l", ":1|", 8 * 65536, 4, op(api.Del, "l", "", "", 0, none)},
	}
	n := made(t, 1, 3, topFile)
	elsewhere := 0
	v := vv()
	var want []api.Event
	for i, s := range steps {
		for ; elsewhere < s.elsewhere; elsewhere++ {
			lets(t, n, 0, ev(0, elsewhere+1, 3, api.VV{}, set("q", "v")))
		}
		does(t, n, s.wall, s.words, s.want)
		saw(t, n, vv(0, elsewhere, 1, i+1), api.VV{})
		want = append(want, ev(1, i+1, s.time, vv(0, elsewhere), s.op))
	}
	n.Sync()
	v[0] = elsewhere
	for len(want) > 0 {
		l := has(t, n, 2, v).Events
		if len(l) == 0 || !slices.Equal(l, want[:len(l)]) {
			t.Fatalf("told\n%v\nof\n%v", l, want)
		}
		v[1] += len(l)
		want = want[len(l):]
	}
}

// P23.2: a wall that can't be is refused, the clock stays, and no event is made.
func TestWalls(t *testing.T) {
	n := made(t, 0, 2, topFile)
	does(t, n, 3, "SET k v", "+OK|")
	for _, wall := range []int{-1, topWall + 1, math.MinInt, math.MaxInt} {
		does(t, n, wall, "SET k w", "-ERR arg|")
		does(t, n, wall, "GET k", "$1|v|")
	}
	saw(t, n, vv(0, 1), api.VV{})
	keeps(t, n, 1, 0)
	does(t, n, 0, "SET k x", "+OK|")
	does(t, n, topWall, "SET k y", "+OK|")
	tells(t, n, ev(0, 1, 3*65536, api.VV{}, set("k", "v")), ev(0, 2, 3*65536+1, api.VV{}, set("k", "x")),
		ev(0, 3, topWall*65536, api.VV{}, set("k", "y")))
}

// P23.2: where there is no time any more a command is refused.
func TestLastTime(t *testing.T) {
	n := made(t, 0, 2, topFile)
	lets(t, n, 1, ev(1, 1, topTime-1, api.VV{}, set("k", "v")))
	does(t, n, 0, "SET l v", "+OK|")
	for _, wall := range []int{0, 5, topWall} {
		does(t, n, wall, "SET l w", "-ERR over|")
		does(t, n, wall, "GET l", "$1|v|")
	}
	does(t, n, topWall+1, "SET l w", "-ERR arg|")
	saw(t, n, vv(0, 1, 1, 1), api.VV{})
	keeps(t, n, 2, 0)
	tells(t, n, ev(1, 1, topTime-1, api.VV{}, set("k", "v")), ev(0, 1, topTime, vv(1, 1), set("l", "v")))
}

// P23.2: where there is no dot any more a command is refused, ahead of what is wrong with the wall, and the clock
// doesn't tick.
func TestLastDot(t *testing.T) {
	n := made(t, 2, 3, topFile)
	lay(t, n, textOf(vv(0, topSeq, 1, 3, 2, topSeq-1), 77))
	does(t, n, 0, "SET k v", "+OK|")
	for _, wall := range []int{0, 5, topWall, topWall + 1, -1} {
		does(t, n, wall, "SET k w", "-ERR over|")
		does(t, n, wall, "GET k", "$1|v|")
	}
	saw(t, n, vv(0, topSeq, 1, 3, 2, topSeq), vv(0, topSeq, 1, 3, 2, topSeq-1))
	keeps(t, n, 1, 0)
	if at := n.life.clock.Last(); at != 78 {
		t.Errorf("the clock stands at %d", at)
	}
	n.Sync()
	m := has(t, n, 0, vv(0, topSeq, 1, 3, 2, topSeq-1))
	if want := ev(2, topSeq, 78, vv(0, topSeq, 1, 3), set("k", "v")); len(m.Events) != 1 || m.Events[0] != want {
		t.Errorf("told %v, want %v", m.Events, want)
	}
}

// P23.2: what the log has no room for is refused, and not seen; but the clock has ticked.
func TestFull(t *testing.T) {
	one := ev(0, 1, 5*65536, api.VV{}, set("k", "v"))
	n := made(t, 0, 2, 3*size(one)-1)
	asks(t, n, "SET k v", "+OK|")
	asks(t, n, "SET k w", "+OK|")
	for range 3 {
		asks(t, n, "SET k x", "-ERR full|")
		asks(t, n, "RPUSH l x", "-ERR full|")
		asks(t, n, "GET k", "$1|w|")
		asks(t, n, "KEYS", "*1|$1|k|")
		saw(t, n, vv(0, 2), api.VV{})
		keeps(t, n, 2, 0)
	}
	// There is room for a smaller one. Six were refused ahead of it.
	asks(t, n, "DEL k", ":1|")
	tells(t, n, one, ev(0, 2, 5*65536+1, api.VV{}, set("k", "w")), ev(0, 3, 5*65536+8, api.VV{}, api.Op{Kind: api.Del, Key: "k"}))
}

// P23.2: what was refused is gone behind a crash, too: the log has just what was seen.
func TestRefusedIsNotLogged(t *testing.T) {
	n := made(t, 0, 1, 4*size(ev(0, 1, 5*65536, api.VV{}, set("k", "v"))))
	asks(t, n, "SET k v", "+OK|")
	asks(t, n, "SET k", "-ERR arity|")
	does(t, n, -1, "SET k w", "-ERR arg|")
	asks(t, n, "RPUSH k w", "-WRONGTYPE|")
	asks(t, n, "SET "+many(64, "k")+" "+many(64, "v"), "-ERR full|")
	again(t, n, topFile, 0, 0)
	saw(t, n, vv(0, 1), vv(0, 1))
	asks(t, n, "KEYS", "*1|$1|k|")
	asks(t, n, "GET k", "$1|v|")
}
