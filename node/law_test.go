package node

import (
	"math"
	"slices"
	"strconv"
	"testing"

	"polyphony/api"
)

// store is nodes, each beside one by the document's words, and what is under way between them.
type store struct {
	t      *testing.T
	s      dice
	nodes  []*Node
	plain  []*plain
	flying []Msg
	told   map[api.Dot]api.Event // what was told by anybody
	strays bool                  // whether there are messages that no node ever sent
	counts map[string]int        // how often what is to be tested came to pass
}

// newStore is nodes that have seen nothing.
func newStore(t *testing.T, seed dice, replicas, room int) *store {
	w := &store{t: t, s: seed, told: map[api.Dot]api.Event{}, counts: map[string]int{}}
	for self := range replicas {
		w.nodes = append(w.nodes, made(t, self, replicas, room))
		w.plain = append(w.plain, newPlain(self, replicas, room))
	}
	return w
}

// keys is those that are used: some for one type each, and two for all.
func keys() []string { return []string{"t", "n", "g", "h", "z", "l", "x", "y"} }

// reads is commands that read, by which all of a node's keys are told.
func reads() [][]string {
	l := [][]string{{"KEYS"}}
	for _, key := range keys() {
		l = append(l, []string{"TYPE", key}, []string{"GET", key}, []string{"COUNT", key}, []string{"SMEMBERS", key},
			[]string{"HGETALL", key}, []string{"ZRANGE", key, "0", "-1"}, []string{"ZSCORE", key, "a"}, []string{"LRANGE", key, "0", "-1"})
	}
	return l
}

// readAll is all that a node tells of its keys.
func readAll(n *Node) []string {
	var l []string
	for _, args := range reads() {
		l = append(l, told(n.Command(args, 0)))
	}
	return l
}

// args is a command, mostly one that is done.
func (w *store) args() []string {
	s := &w.s
	key := func(of string) string { return pick(s, of, of, of, "x", "y") }
	f, v := pick(s, "a", "b", "c"), pick(s, "v", "w", "", many(s.roll(65), "u"))
	i := strconv.Itoa(s.roll(6))
	return pick(s,
		[]string{"SET", key("t"), v}, []string{"INCRBY", key("n"), pick(s, "-3", "7")},
		[]string{"SADD", key("g"), f}, []string{"SREM", key("g"), f},
		[]string{"HSET", key("h"), f, v}, []string{"HDEL", key("h"), f},
		[]string{"ZADD", key("z"), pick(s, "-2", "5"), f}, []string{"ZREM", key("z"), f},
		[]string{"RPUSH", key("l"), v}, []string{"LPUSH", key("l"), v}, []string{"LINSERT", key("l"), i, v},
		[]string{"LREM", key("l"), i}, []string{"LREM", "l", "0"}, []string{"RPUSH", "l", v}, []string{"DEL", "l"},
		[]string{"DEL", pick(s, keys()...)}, []string{"LRANGE", "l", "0", i}, []string{"SET", "t"}, []string{"INCRBY", "n", "x"})
}

// wall is what a wall shows, that goes back and forth, and at times can't be.
func (w *store) wall() int {
	if w.s.roll(30) == 0 {
		return pick(&w.s, -1, topWall+1, math.MaxInt, math.MinInt)
	}
	return w.s.roll(9)
}

// stray is a message that no node ever sent.
func (w *store) stray(to int) Msg {
	s := &w.s
	m := Msg{From: s.roll(len(w.nodes)+2) - 1, To: to, Ask: s.roll(2) == 0}
	m.Seen = w.around(to)
	if s.roll(12) == 0 {
		m.To = s.roll(len(w.nodes))
	}
	for range s.roll(4) {
		r, n := pick(s, 0, 1, 2, s.roll(16)), 0
		deps := w.around(to)
		if w.plain[to].up {
			n = max(1, w.plain[to].all()[r]+s.roll(4)-1)
		}
		op := pick(s, set("t", "s"), push("s", api.Dot{}), push("s", api.Dot{R: 1, N: max(1, deps[1])}), api.Op{Kind: api.Del, Key: "l"},
			api.Op{Kind: api.LRem, Key: "l", Ref: api.Dot{R: 1, N: max(1, deps[1])}}, api.Op{Kind: api.SAdd, Key: "x", Field: "s"})
		m.Events = append(m.Events, ev(r, n, s.roll(1<<20), deps, op))
	}
	return m
}

// around is a vector that is near to what a node has seen.
func (w *store) around(to int) api.VV {
	v, _ := w.plain[to].vectors()
	for r := range v {
		if w.s.roll(4) == 0 {
			v[r] = max(0, v[r]+w.s.roll(5)-3)
		}
	}
	if w.s.roll(40) == 0 {
		v[w.s.roll(16)] = -1
	}
	return v
}

// send lets messages be under way, as far as there are few; and holds them against what may be told.
func (w *store) send(node int, got, want []Msg) {
	w.t.Helper()
	if !slices.EqualFunc(got, want, sameMsg) {
		w.t.Fatalf("node %d sends\n%+v\nwant\n%+v", node, got, want)
	}
	_, fast := w.nodes[node].Seen()
	for _, m := range got {
		if m.Seen != fast {
			w.t.Fatalf("node %d tells that it has %v, but %v is fast", node, m.Seen, fast)
		}
		for _, e := range m.Events {
			if e.Dot.N > fast[e.Dot.R] {
				w.t.Fatalf("node %d tells %v, but %v is fast", node, e, fast)
			}
			if was, ok := w.told[e.Dot]; ok && was != e && !w.strays {
				w.t.Fatalf("two events of one dot were told: %v, %v", was, e)
			}
			w.told[e.Dot] = e
		}
		if len(w.flying) < 40 {
			w.flying = append(w.flying, m)
		}
	}
	w.counts["sent"] += len(got)
}

// deliver lets a message come, that is under way no more, or once more.
func (w *store) deliver(i int, stays bool) {
	w.t.Helper()
	m := w.flying[i]
	if !stays {
		w.flying = slices.Delete(w.flying, i, i+1)
	}
	w.take(m.To, m)
}

// take lets a node take a message.
func (w *store) take(node int, m Msg) {
	w.t.Helper()
	before := len(w.plain[node].seen)
	w.send(node, w.nodes[node].Take(m), w.plain[node].take(m))
	w.counts["came"] += len(w.plain[node].seen) - before
}

// do does one step, of a node that is chosen by dice.
func (w *store) do() int {
	w.t.Helper()
	i := w.s.roll(len(w.nodes))
	n, p := w.nodes[i], w.plain[i]
	switch k := w.s.roll(40); {
	case k < 10:
		w.command(i, w.args(), w.wall())
	case k < 14:
		n.Sync()
		if p.up {
			p.sync()
		}
	case k < 20:
		w.send(i, n.Ask(), p.ask())
	case k < 32 && len(w.flying) > 0:
		w.deliver(w.s.roll(len(w.flying)), w.s.roll(5) == 0)
	case k < 33 && len(w.flying) > 0:
		at := w.s.roll(len(w.flying))
		w.flying = slices.Delete(w.flying, at, at+1)
	case k < 34 && w.s.roll(2) == 0:
		keep, at, turn := w.s.roll(300)-20, w.s.roll(5000)-500, w.s.roll(3)*(w.s.roll(1<<18)-1<<17)
		was := len(p.seen)
		n.Crash(keep, at, turn)
		p.crash(keep, at, turn)
		w.counts["lost"] += was - len(p.seen)
	case k < 36 || !p.up && w.s.roll(2) == 0:
		w.start(i)
	case k < 37:
		w.compact(i)
	case k < 39:
		w.collect(i)
	case w.strays:
		w.take(i, w.stray(i))
	}
	w.same(i)
	return i
}

// command lets a node do a command.
func (w *store) command(i int, args []string, wall int) {
	w.t.Helper()
	got, want := w.nodes[i].Command(args, wall), w.plain[i].command(args, wall)
	if got.Kind != want.Kind || got.Text != want.Text || got.Num != want.Num || !slices.Equal(got.List, want.List) {
		w.t.Fatalf("node %d, %q at %d: %+v, want %+v", i, args, wall, got, want)
	}
	w.counts[got.Text]++
}

// start lets a node start.
func (w *store) start(i int) {
	w.t.Helper()
	if got, want := w.nodes[i].Start(), w.plain[i].start(); got != want {
		w.t.Fatalf("node %d, Start: %d, want %d", i, got, want)
	}
}

// compact lets a node compact its log.
func (w *store) compact(i int) {
	w.t.Helper()
	got, want := w.nodes[i].Compact(), w.plain[i].compact()
	if got != want {
		w.t.Fatalf("node %d, Compact: %d, want %d", i, got, want)
	}
	w.counts["compacted "+strconv.Itoa(int(got))]++
}

// collect lets a node collect.
func (w *store) collect(i int) {
	w.t.Helper()
	others, dead := w.nodes[i].Collect()
	if o, d := w.plain[i].collect(); others != o || dead != d {
		w.t.Fatalf("node %d, Collect: %d, %d, want %d, %d", i, others, dead, o, d)
	}
	w.counts["trimmed"] += others
	w.counts["collected"] += dead
}

// same holds what a node tells of itself against what it shall tell.
func (w *store) same(i int) {
	w.t.Helper()
	n, p := w.nodes[i], w.plain[i]
	if n.Up() != p.up {
		w.t.Fatalf("node %d, Up: %t", i, n.Up())
	}
	all, fast := p.vectors()
	saw(w.t, n, all, fast)
	others, dead := p.kept()
	keeps(w.t, n, others, dead)
}

// reads holds what a node tells of its keys against what all tell that it has seen.
func (w *store) reads(i int) {
	w.t.Helper()
	for _, args := range reads() {
		w.command(i, args, -1)
	}
}

// alike holds what nodes tell that have seen the same against one another.
func (w *store) alike() {
	w.t.Helper()
	told := map[api.VV][]string{}
	for i, n := range w.nodes {
		if !n.Up() {
			continue
		}
		v, _ := n.Seen()
		l := readAll(n)
		if was, ok := told[v]; ok {
			w.counts["alike"]++
			if !slices.Equal(was, l) {
				w.t.Fatalf("node %d has seen %v, and tells\n%q\nanother one\n%q", i, v, l, was)
			}
		}
		told[v] = l
	}
}

// P23.1 to P23.6, P2, P3, P5: nodes do what the document's words say, whatever comes to pass; those that have seen the
// same tell the same; nothing is told that isn't fast, and no two events of one dot.
func TestLaw(t *testing.T) {
	counts := map[string]int{}
	for seed := range dice(80) {
		room := topFile
		if seed%3 == 2 {
			room = 500 + 300*int(seed%5)
		}
		w := newStore(t, seed*7919, 1+int(seed%4), room)
		for step := range 400 {
			i := w.do()
			if step%20 == 19 {
				w.reads(i)
				w.alike()
			}
		}
		for k, n := range w.counts {
			counts[k] += n
		}
	}
	for _, k := range []string{"sent", "came", "lost", "trimmed", "collected", "alike", "compacted 0", "compacted 9", "compacted 11",
		"ERR full", "ERR down", "ERR arity", "ERR int", "ERR arg", "WRONGTYPE", "RANGE"} {
		if counts[k] < 10 {
			t.Errorf("%q: %d times: this tests too little", k, counts[k])
		}
	}
}

// P23.1 to P23.6: the same, where there are messages that no node ever sent. By these a node may be told that others have
// seen what they haven't: when dead ones are collected on the strength of that the story ends, as they may be missed.
func TestStrays(t *testing.T) {
	steps := 0
	for seed := range dice(60) {
		w := newStore(t, seed*104729+5, 1+int(seed%4), pick(&seed, topFile, 2000, 3000))
		w.strays = true
		for step := 0; step < 200 && w.counts["collected"] == 0; step++ {
			i := w.do()
			w.take(i, w.stray(i))
			w.same(i)
			if step%40 == 39 {
				w.reads(i)
			}
			steps++
		}
	}
	if steps < 5000 {
		t.Errorf("%d steps: this tests too little", steps)
	}
}

// lacks is the most events that one node lacks of those that any node has.
func (w *store) lacks() int {
	var joined api.VV
	for _, n := range w.nodes {
		v, _ := n.Seen()
		for r := range v {
			joined[r] = max(joined[r], v[r])
		}
	}
	most := 0
	for _, n := range w.nodes {
		v, _ := n.Seen()
		of := 0
		for r := range v {
			of += joined[r] - v[r]
		}
		most = max(most, of)
	}
	return most
}

// P4, P2, P5: whatever came to pass, with all up, synced, asked and delivered often enough all have seen the same, and
// tell the same; and then nothing is kept for others.
func TestTheyMeet(t *testing.T) {
	for seed := range dice(25) {
		w := newStore(t, seed*31337+1, 2+int(seed%3), topFile)
		for range 150 {
			w.do()
		}
		for i, n := range w.nodes {
			if !n.Up() {
				w.start(i)
			}
		}
		for range (w.lacks()+batch-1)/batch + 3 {
			for i, n := range w.nodes {
				n.Sync()
				w.plain[i].sync()
			}
			for i, n := range w.nodes {
				w.send(i, n.Ask(), w.plain[i].ask())
			}
			for len(w.flying) > 0 {
				w.deliver(0, false)
			}
		}
		for i, n := range w.nodes {
			v, fast := n.Seen()
			if first, _ := w.nodes[0].Seen(); v != first || v != fast {
				t.Fatalf("seed %d: node %d has seen %v, %v fast; the first one %v", seed, i, v, fast, first)
			}
			w.collect(i)
			w.reads(i)
			if others, _ := n.Kept(); others != 0 {
				t.Fatalf("seed %d: node %d keeps %d for others", seed, i, others)
			}
		}
		w.alike()
		if w.counts["alike"] < len(w.nodes)-1 {
			t.Fatalf("seed %d: they haven't seen the same", seed)
		}
	}
}
