package cluster

import (
	"math"
	"slices"
	"strconv"
	"strings"
	"testing"

	"polyphony/api"
	"polyphony/resp"
)

// store is a cluster, beside one by the document's words.
type store struct {
	t      *testing.T
	s      dice
	c      *Cluster
	plain  *plain
	counts map[string]int // how often what is to be tested came to pass
}

// newStore is a cluster whose nodes have seen nothing.
func newStore(t *testing.T, seed dice, replicas, room int) *store {
	return &store{t: t, s: seed, c: made(t, replicas, room), plain: newPlain(replicas, room), counts: map[string]int{}}
}

// keys is those that are used: some for one type each, and two for all.
func keys() []string { return []string{"t", "n", "g", "h", "z", "l", "x", "y"} }

// reads is the bytes of commands that read, by which all of a node's keys are told.
func reads() string {
	all := wire("KEYS")
	for _, key := range keys() {
		all += wires("TYPE "+key, "GET "+key, "COUNT "+key, "SMEMBERS "+key, "HGETALL "+key, "ZRANGE "+key+" 0 -1", "ZSCORE "+key+" a",
			"ZRANK "+key+" b", "SISMEMBER "+key+" a", "HGET "+key+" a", "LRANGE "+key+" 0 -1")
	}
	return all
}

// words is a command, mostly one that is done.
func (w *store) words() string {
	s := &w.s
	key := func(of string) string { return pick(s, of, of, of, "x", "y") }
	f, v := pick(s, "a", "b", "c"), pick(s, "v", "w", "x", many(1+s.roll(64), "u"))
	i := strconv.Itoa(s.roll(6))
	return pick(s,
		"SET "+key("t")+" "+v, "INCRBY "+key("n")+" "+pick(s, "-3", "7"), "SADD "+key("g")+" "+f, "SREM "+key("g")+" "+f,
		"HSET "+key("h")+" "+f+" "+v, "HDEL "+key("h")+" "+f, "ZADD "+key("z")+" "+pick(s, "-2", "5")+" "+f, "ZREM "+key("z")+" "+f,
		"RPUSH "+key("l")+" "+v, "LPUSH "+key("l")+" "+v, "LINSERT "+key("l")+" "+i+" "+v, "LREM "+key("l")+" "+i, "LREM l 0", "RPUSH l "+v,
		"DEL "+pick(s, keys()...), "LRANGE l 0 "+i, "SET t", "INCRBY n x", "KEYS")
}

// bytes is what a client sends: a few commands, at times cut off, and at times with what can't be among them.
func (w *store) bytes() string {
	s := &w.s
	all := ""
	for range s.roll(4) {
		all += w.piece()
	}
	if s.roll(8) == 0 {
		all = all[:s.roll(len(all)+1)]
	}
	return all
}

// piece is a command's bytes, or bytes that are none.
func (w *store) piece() string {
	if w.s.roll(25) == 0 {
		return pick(&w.s, "x", "*0\r\n", "*9\r\n", "*1\r\n$65\r\n", "\r\n", "*01", "*1\r\n$1\r\nkk")
	}
	return wire(w.words())
}

// step is a step, mostly one that can be.
func (w *store) step() Step {
	s := &w.s
	st := Step{Node: s.roll(w.c.Replicas())}
	if s.roll(40) == 0 {
		st.Node = pick(s, -1, w.c.Replicas(), most, math.MinInt, math.MaxInt)
	}
	switch k := s.roll(40); {
	case k < 12:
		st.Kind, st.Bytes = 1, w.bytes()
		if s.roll(12) == 0 {
			st.At = pick(s, 1, -1, 256)
		}
	case k < 15:
		st.Kind = 2
	case k < 20:
		st.Kind = 3
	case k < 32:
		st.Kind, st.N = pick(s, 4, 4, 4, 4, 4, 4, 4, 5, 6, 6), s.roll(w.c.InFlight()+1)
		if s.roll(40) == 0 {
			st.N = pick(s, -1, flying, math.MinInt, math.MaxInt)
		}
	case k < 33 && s.roll(2) == 0:
		st.Kind, st.N, st.At, st.Turn = 7, s.roll(300)-20, s.roll(5000)-500, s.roll(3)*(s.roll(1<<18)-1<<17)
	case k < 36:
		st.Kind = 8
	case k < 37:
		st.Kind = 9
	case k < 38:
		st.Kind = 10
	case k < 39:
		st.Kind, st.N = 11, s.roll(9)
		if s.roll(10) == 0 {
			st.N = pick(s, -1, topWall+1, math.MaxInt, math.MinInt)
		}
	default:
		st.Kind = s.roll(14) - 1
	}
	return st
}

// do holds a step beside the words.
func (w *store) do(s Step) Answer {
	w.t.Helper()
	got, want := w.c.Do(s), w.plain.do(s)
	if got != want {
		w.t.Fatalf("Do(%+v): %+v, want %+v", s, got, want)
	}
	w.counts[strconv.Itoa(s.Kind)+" "+strconv.Itoa(int(got.Err))]++
	for line := range strings.SplitSeq(got.Bytes, "\r\n") {
		if strings.HasPrefix(line, "-ERR") {
			w.counts[line]++
		}
	}
	return got
}

// same holds all that the cluster tells of itself beside the words.
func (w *store) same() {
	w.t.Helper()
	for at := -1; at <= w.c.Replicas(); at++ {
		all, fast, up := w.c.Seen(at)
		if a, f, u := w.plain.seen(at); all != a || fast != f || up != u {
			w.t.Fatalf("Seen(%d): %v, %v, %t, want %v, %v, %t", at, all, fast, up, a, f, u)
		}
		others, dead := w.plain.kept(at)
		keeps(w.t, w.c, at, others, dead)
	}
	if l := underWay(w.c); !slices.EqualFunc(l, w.plain.flying, sameMsg) || len(l) != w.c.InFlight() {
		w.t.Fatalf("under way:\n%v\nwant\n%v", l, w.plain.flying)
	}
	if w.c.InFlight() == flying {
		w.counts["no room"]++
	}
}

// alike holds what nodes tell that have seen the same against one another; and that what a node has seen of another one's
// events is fast there.
func (w *store) alike() {
	w.t.Helper()
	told := map[api.VV]string{}
	for a := range w.c.Replicas() {
		v, _, up := w.c.Seen(a)
		if !up {
			continue
		}
		for b := range w.c.Replicas() {
			if _, fast, up := w.c.Seen(b); a != b && up && v[b] > fast[b] {
				w.t.Fatalf("node %d has seen %v; of node %d %v is fast", a, v, b, fast)
			}
		}
		l := w.do(Step{Kind: 1, Node: a, At: 1, Bytes: reads()}).Bytes
		if was, ok := told[v]; ok {
			w.counts["alike"]++
			if was != l {
				w.t.Fatalf("node %d has seen %v, and tells\n%q\nanother one\n%q", a, v, l, was)
			}
		}
		told[v] = l
	}
}

// P24.1 to P24.6: a cluster does what the document's words say, whatever comes to pass; nodes that have seen the same
// tell the same.
func TestLaw(t *testing.T) {
	counts := map[string]int{}
	for seed := range dice(60) {
		room := topFile
		if seed%3 == 2 {
			room = 500 + 300*int(seed%5)
		}
		replicas := 1 + int(seed%4)
		if seed%15 == 14 {
			replicas = most
		}
		w := newStore(t, seed*7919, replicas, room)
		for step := range 400 {
			w.do(w.step())
			w.same()
			if step%20 == 19 {
				w.alike()
			}
		}
		for k, n := range w.counts {
			counts[k] += n
		}
	}
	for _, k := range []string{"1 0", "1 1", "2 0", "2 1", "3 0", "3 1", "4 0", "4 7", "5 0", "5 7", "6 0", "6 7", "7 0", "7 1", "8 0", "8 1", "8 11",
		"9 0", "9 1", "9 9", "9 11", "10 0", "10 1", "11 0", "11 1", "-1 1", "0 1", "12 1",
		"-ERR full", "-ERR down", "-ERR form", "-ERR long", "-ERR arity", "-ERR int", "-ERR arg", "alike", "no room"} {
		if counts[k] < 5 {
			t.Errorf("%q: %d times: this tests too little", k, counts[k])
		}
	}
}

// lacks is the most events that one node lacks of those that any node has seen.
func (w *store) lacks() int {
	var joined api.VV
	for at := range w.c.Replicas() {
		v, _, _ := w.c.Seen(at)
		for r := range v {
			joined[r] = max(joined[r], v[r])
		}
	}
	of := 0
	for _, n := range joined {
		of += n
	}
	least := of
	for at := range w.c.Replicas() {
		least = min(least, seen(w.c, at))
	}
	return of - least
}

// round is one in which all sync, each asks, and all messages are delivered.
func (w *store) round() {
	for at := range w.c.Replicas() {
		w.do(Step{Kind: 2, Node: at})
	}
	for at := range w.c.Replicas() {
		w.do(Step{Kind: 3, Node: at})
	}
	for w.c.InFlight() > 0 {
		w.do(Step{Kind: 4, N: w.s.roll(w.c.InFlight())})
	}
}

// meet holds that all nodes meet, and that then nothing is left for others.
func (w *store) meet() {
	w.t.Helper()
	for at := range w.c.Replicas() {
		w.do(Step{Kind: 8, Node: at})
	}
	lacks := w.lacks()
	for range (lacks+batch-1)/batch + 3 {
		w.round()
	}
	first, _, _ := w.c.Seen(0)
	for at := range w.c.Replicas() {
		saw(w.t, w.c, at, first, first)
		others, _ := w.c.Kept(at)
		if n := w.do(Step{Kind: 10, Node: at}).N; n != others {
			w.t.Fatalf("node %d has %d for others, of which %d go", at, others, n)
		}
		if others, _ := w.c.Kept(at); others != 0 {
			w.t.Fatalf("node %d keeps %d for others", at, others)
		}
	}
	w.counts["lacked"] += lacks
	w.alike()
	if w.counts["alike"] < w.c.Replicas()-1 {
		w.t.Fatal("they haven't seen the same")
	}
}

// P24.6, P24.7: whatever came to pass, the nodes meet, once and again, and tell the same.
func TestTheyMeet(t *testing.T) {
	lacked := 0
	for seed := range dice(24) {
		w := newStore(t, seed*31337+1, 1+int(seed%5), topFile)
		for range 3 {
			for range 120 {
				w.do(w.step())
			}
			w.counts["alike"] = 0
			w.meet()
		}
		lacked += w.counts["lacked"]
	}
	if lacked < 300 {
		t.Errorf("they lacked %d: this tests too little", lacked)
	}
}

// P24.7: so do as many nodes as there may be, where messages are lost at first as there is no room; and where one of them
// has made what all others lack.
func TestManyMeet(t *testing.T) {
	for _, isFull := range []bool{false, true} {
		w := newStore(t, 4711, most, topFile)
		for range 100 {
			w.do(Step{Kind: 1, Node: w.s.roll(most), Bytes: wire(w.words())})
		}
		for range 50 {
			w.do(Step{Kind: 1, Node: 9, Bytes: wire(w.words())})
		}
		for isFull && w.c.InFlight() < flying {
			w.do(Step{Kind: 3, Node: w.s.roll(most)})
		}
		w.meet()
	}
}

// P24.7: where nobody has anything new, three rounds are enough; what is told then is that all have all.
func TestNothingNew(t *testing.T) {
	w := newStore(t, 1, 3, topFile)
	for at := range 3 {
		w.do(Step{Kind: 1, Node: at, Bytes: wires("RPUSH l a", "SET t v")})
	}
	w.meet()
	w.meet()
	if w.lacks() != 0 || w.counts["lacked"] != 4 {
		t.Fatalf("they lacked %d", w.counts["lacked"])
	}
}

// R6: the same steps, the same answers, each time, whatever other clusters do.
func TestSameEachTime(t *testing.T) {
	play := func() []Answer {
		w := newStore(t, 4711, 3, topFile)
		var l []Answer
		for range 200 {
			s := w.step()
			l = append(l, w.do(s))
			other := made(t, 2, topFile)
			other.Do(Step{Kind: Client, Bytes: wire("SET t elsewhere")})
			other.Do(Step{Kind: Ask})
		}
		for at := range 3 {
			l = append(l, w.do(Step{Kind: Client, Node: at, At: 1, Bytes: reads()}))
		}
		return l
	}
	first := play()
	for range 5 {
		if l := play(); !slices.Equal(l, first) {
			t.Fatal("not as it was the first time")
		}
	}
}

// P24.2, P21.3: in whatever pieces a client's bytes come, it is told the same, all together.
func TestPiecesPlayNoPart(t *testing.T) {
	for seed := range dice(40) {
		s := seed * 65537
		w := newStore(t, seed*99991+3, 1, topFile)
		all := ""
		for range 30 {
			all += wire(w.words())
		}
		if seed%4 == 3 {
			all += pick(&s, "*0\r\n", "*1\r\n$65\r\n", "*01", "x")
		}
		whole := made(t, 1, topFile).Do(Step{Kind: Client, Bytes: all}).Bytes
		told := ""
		for rest := all; rest != ""; {
			n := 1 + s.roll(min(len(rest), pick(&s, 1, 5, 90)))
			told += w.do(Step{Kind: Client, Bytes: rest[:n]}).Bytes
			rest = rest[n:]
		}
		if told != whole || len(told) < 60 {
			t.Fatalf("in pieces: %q, whole: %q", told, whole)
		}
	}
}

// A command's arguments may be any bytes: a line's end among them.
func TestAnyBytes(t *testing.T) {
	c := made(t, 1, topFile)
	v := "\r\n*1\r\n\x00\xff"
	does(t, c, Step{Kind: Client, Bytes: string(resp.Command([]string{"set", "\r\n", v})) + string(resp.Command([]string{"Get", "\r\n"}))},
		Answer{Bytes: "+OK\r\n$" + strconv.Itoa(len(v)) + "\r\n" + v + "\r\n"})
}
