package node

import (
	"math"
	"reflect"
	"slices"
	"testing"

	"polyphony/api"
)

// odd is numbers at the edges of what there is.
func odd() []int {
	return []int{math.MinInt, math.MinInt + 1, -1 << 40, -65537, -1, 0, 1, 2, 15, 16, 17, 65535, 65536, topSeq, topSeq + 1, topWall, topTime, math.MaxInt - 1, math.MaxInt}
}

// filled is a node of three that has seen something of each kind, of which a part is fast.
func filled(t *testing.T) *Node {
	t.Helper()
	n := made(t, 1, 3, topFile)
	for i, words := range []string{"SET t v", "INCRBY n 5", "SADD g a", "SADD g b", "HSET h f v", "HSET h e v", "ZADD z 3 a", "ZADD z 2 b", "RPUSH l a", "RPUSH l b", "RPUSH l c", "LREM l 1"} {
		if r := told(n.Command(fields(words), 3)); r[0] == '-' {
			t.Fatalf("%s: %s", words, r)
		}
		if i == 9 {
			n.Sync()
		}
	}
	lets(t, n, 0, row(0, 2)...)
	lets(t, n, 0, ev(0, 5, 9, api.VV{}, set("k", "v")))
	return n
}

// R1: all calls end, and none panics, at whatever arguments.
func TestAnyArguments(t *testing.T) {
	down := filled(t)
	down.Crash(0, 0, 0)
	for _, n := range []*Node{nil, {}, down, filled(t)} {
		for _, a := range odd() {
			for _, b := range odd() {
				e := api.Event{Dot: api.Dot{R: a, N: b}, Time: a, Deps: all(b), Op: api.Op{Kind: b, Key: "k", Num: a, Ref: api.Dot{R: b, N: a}}}
				f := ev(0, 3, 9, api.VV{}, set("k", "v"))
				f.Time, f.Deps[2] = a, b
				for _, m := range []Msg{
					{From: a, To: b, Ask: true, Seen: all(a), Events: []api.Event{e, {}, f}},
					{From: 0, To: 1, Ask: true, Seen: vv(0, a, 15, b), Events: []api.Event{e, f, e}},
					{From: 2, To: 1, Ask: true, Events: []api.Event{e, f, e}},
				} {
					n.Take(m)
				}
				n.Command([]string{"GET", "k"}, a)
				if b == 0 {
					n.Command([]string{"SET", "k", "v"}, a)
					n.Ask()
					n.Compact()
					n.Collect()
				}
			}
			n.Command(make([]string, 9), a)
			n.Command([]string{many(100000, "x"), "\xff"}, a)
		}
		n.Seen()
		n.Kept()
	}
	for _, a := range odd() {
		for _, b := range odd() {
			n := filled(t)
			n.Crash(a, b, a)
			n.Crash(b, a, b)
			if n.Start() != api.OK || !n.Up() {
				t.Fatalf("it doesn't start behind Crash(%d, %d, %d)", a, b, a)
			}
			if v, fast := n.Seen(); v != fast || v[1] < 10 || v[1] > 12 {
				t.Fatalf("behind Crash(%d, %d, %d): %v, %v", a, b, a, v, fast)
			}
		}
	}
}

// R2: each field of a message that no sentence names is zero, and a reply has what its kind uses alone.
func TestOnlyUsed(t *testing.T) {
	n := filled(t)
	for _, m := range n.Ask() {
		if !sameMsg(m, Msg{From: 1, To: m.To, Ask: true, Seen: vv(1, 10)}) {
			t.Errorf("Ask: %+v", m)
		}
	}
	n.Crash(0, 0, 0)
	if r := n.Command([]string{"GET", "k"}, 0); r.Kind != 2 || r.Text != "ERR down" || r.Num != 0 || len(r.List) != 0 {
		t.Errorf("down: %+v", r)
	}
}

// R3: what is handed in is neither changed nor kept.
func TestWhatIsHandedIn(t *testing.T) {
	n := made(t, 0, 2, topFile)
	l := row(1, 4)
	late := ev(1, 6, 9, api.VV{}, set("k", "late"))
	in := append(slices.Clone(l), late, api.Event{Dot: api.Dot{R: 1, N: 5}})
	was := slices.Clone(in)
	takes(t, n, Msg{From: 1, To: 0, Events: in[:5]})
	if !slices.Equal(in, was) {
		t.Fatalf("the events were changed: %v", in)
	}
	for i := range in {
		in[i] = ev(1, i+1, 99, api.VV{}, set("other", "x"))
	}
	lets(t, n, 1, ev(1, 5, 9, api.VV{}, set("k", "v")))
	saw(t, n, vv(1, 6), api.VV{})
	asks(t, n, "KEYS", "*1|$1|k|")
	tells(t, n, append(l, ev(1, 5, 9, api.VV{}, set("k", "v")), late)...)

	args := []string{"set", "q", "v", "behind"}
	n.Command(args[:3], 1)
	if !slices.Equal(args, []string{"set", "q", "v", "behind"}) {
		t.Fatalf("the words were changed: %q", args)
	}
	args[0], args[1], args[2] = "x", "y", "z"
	asks(t, n, "GET q", "$1|v|")
}

// R3: what is told shares nothing with what is kept, nor with what was told ahead.
func TestWhatIsTold(t *testing.T) {
	n := filled(t)
	n.Sync()
	question := Msg{From: 2, To: 1, Ask: true}
	want := n.Take(question)
	if len(want) != 1 || len(want[0].Events) != 8 {
		t.Fatalf("told %v: this tests nothing", want)
	}
	spoil := func(l []Msg) {
		for i := range l {
			events := l[i].Events
			for j := range events {
				events[j] = api.Event{}
			}
			_ = append(events[:0:cap(events)], make([]api.Event, cap(events))...)
			l[i] = Msg{}
		}
	}
	kept := slices.Clone(want[0].Events)
	spoil(n.Take(question))
	spoil(n.Ask())
	spoil(n.Ask())
	if !slices.Equal(want[0].Events, kept) {
		t.Fatal("two answers share memory")
	}
	takes(t, n, question, want...)
	if l := n.Ask(); len(l) != 2 || l[0].To != 0 || l[1].To != 2 {
		t.Fatalf("Ask: %v", l)
	}
	for _, words := range []string{"KEYS", "SMEMBERS g", "HGETALL h", "ZRANGE z 0 -1", "LRANGE l 0 -1"} {
		one, two := n.Command(fields(words), 1), n.Command(fields(words), 1)
		kept := slices.Clone(two.List)
		for i := range one.List {
			one.List[i] = "spoilt"
		}
		if three := n.Command(fields(words), 1); !slices.Equal(two.List, kept) || !slices.Equal(three.List, kept) || len(kept) < 2 {
			t.Fatalf("%s: %q, and then %q and %q", words, kept, two.List, three.List)
		}
	}
	again(t, n, 0, 0, 0)
	takes(t, n, question, want...)
}

// R6: the same steps, the same answers, each time, whatever other nodes do.
func TestSameEachTime(t *testing.T) {
	play := func() ([]Msg, [][]string) {
		w := newStore(t, 4711, 3, topFile)
		var told [][]string
		for range 120 {
			i := w.do()
			made(t, i, 3, 100).Command([]string{"SET", "t", "elsewhere"}, 1)
			told = append(told, readAll(w.nodes[i]))
		}
		return w.flying, told
	}
	flying, told := play()
	for range 5 {
		if f, l := play(); !slices.EqualFunc(f, flying, sameMsg) || !reflect.DeepEqual(l, told) {
			t.Fatal("not as it was the first time")
		}
	}
}
