package space

import (
	"math"
	"testing"

	"polyphony/api"
)

// threeEnded is a, b and c of the key k side by side, each ended by another replica.
func threeEnded(t *testing.T) *both {
	t.Helper()
	b := begun()
	b.see(t, inARow(0, root("k", "a"), root("k", "b"), root("k", "c"))...)
	for i := range 3 {
		b.see(t, made(i+1, 1, 9, api.VV{3}, lRem("k", dot(0, i+1))))
	}
	return b
}

// P17.3: a vector that has none, some, and all of the ending dots.
func TestCollectEndingDots(t *testing.T) {
	for _, c := range []struct {
		stable api.VV
		want   int
	}{
		{api.VV{}, 0}, {api.VV{3}, 0}, {api.VV{top}, 0}, {api.VV{0, 1}, 1}, {api.VV{0, 0, 1}, 1}, {api.VV{0, 0, 0, 7}, 1},
		{api.VV{0, 1, 0, 1}, 2}, {api.VV{3, 1, 1, 1}, 3}, {api.VV{0, 1, 1, 1}, 3},
		// Vectors that can't be have the dots that they have.
		{api.VV{-1, -1, -1, -1}, 0}, {api.VV{0, math.MaxInt, -5, math.MinInt}, 1}, {api.VV{0, math.MaxInt, math.MaxInt, top + 1}, 3},
	} {
		b := threeEnded(t)
		if got := b.collects(t, "three", c.stable); got != c.want {
			t.Errorf("Collect(%v): %d, not %d", c.stable, got, c.want)
		}
		b.is(t, "collected")
		if got := b.collects(t, "three again", c.stable); got != 0 {
			t.Errorf("Collect(%v) again: %d", c.stable, got)
		}
		if got := b.collects(t, "the others", api.VV{0, 1, 1, 1}); got != 3-c.want || b.s.Dead() != 0 {
			t.Errorf("Collect of the others: %d", got)
		}
		b.is(t, "all collected")
	}
}

// P17.3: rows of dead ones, one behind the other: they go together, from the last on, as far as they are stable.
func TestCollectRows(t *testing.T) {
	const long = 6
	for held := range long + 1 {
		b := begun()
		ops := []api.Op{root("k", "v")}
		for i := 1; i < long; i++ {
			ops = append(ops, push("k", "v", dot(0, i)))
		}
		b.see(t, inARow(0, ops...)...)
		// All but the one at the place held are ended by replica 1, that one by replica 2.
		n := 0
		for i := range long {
			if i == held {
				b.see(t, made(2, 1, 50, api.VV{long}, lRem("k", dot(0, i+1))))
				continue
			}
			n++
			b.see(t, made(1, n, 50, api.VV{long}, lRem("k", dot(0, i+1))))
		}
		want := long
		if held < long {
			want = long - 1 - held
		}
		if got := b.collects(t, "a row", api.VV{long, long}); got != want {
			t.Errorf("held at %d: %d went, not %d", held, got, want)
		}
		b.is(t, "a row")
		if got := b.collects(t, "the row's rest", api.VV{long, long, 1}); got != long-want || b.s.Dead() != 0 {
			t.Errorf("held at %d: then %d went", held, got)
		}
	}
}

// P17.3: rows whose dots don't rise go as well: what is behind may have a lesser replica's dot.
func TestCollectRowsOfManyReplicas(t *testing.T) {
	for _, order := range [][]int{{0, 1, 2, 3}, {3, 2, 1, 0}, {2, 0, 3, 1}, {1, 3, 0, 2}} {
		b := begun()
		ref := api.Dot{}
		for i, r := range order {
			b.see(t, made(r, 1, i, b.p.seen, push("k", "v", ref)))
			ref = dot(r, 1)
		}
		b.see(t, made(9, 1, 9, b.p.seen, del("k")))
		if got := b.collects(t, "a row", b.p.seen); got != 4 || b.s.Dead() != 0 {
			t.Errorf("in the order %v: %d went", order, got)
		}
		b.is(t, "a row")
	}
}

// P17.3: a live one of the same key that names the dot holds it; one of another key, or what is no Push, doesn't.
func TestCollectNamed(t *testing.T) {
	a := made(0, 1, 1, api.VV{}, root("k", "a"))
	end := made(0, 2, 2, api.VV{}, lRem("k", a.Dot))
	for what, c := range map[string]struct {
		op   api.Op
		want int
	}{
		"named in its key":      {push("k", "b", a.Dot), 0},
		"named in another key":  {push("j", "b", a.Dot), 1},
		"named by LRem":         {lRem("k", a.Dot), 1},
		"a Push of no Ref":      {root("k", "b"), 1},
		"a Push behind another": {push("k", "b", dot(0, 2)), 1},
		"another type":          {set("k", "b"), 1},
	} {
		b := begun()
		b.see(t, a, end, made(1, 1, 3, api.VV{2}, c.op))
		if got := b.collects(t, what, b.p.seen); got != c.want {
			t.Errorf("%s: %d went, not %d", what, got, c.want)
		}
		b.is(t, what)
	}
}

// P17.3: one that is named by several goes only behind the last of them, be they live or dead.
func TestCollectNamedBySeveral(t *testing.T) {
	b := begun()
	b.see(t, inARow(0, root("k", "a"), push("k", "b", dot(0, 1)), push("k", "c", dot(0, 1)), push("k", "d", dot(0, 1)))...)
	b.see(t, made(1, 1, 9, api.VV{4}, lRem("k", dot(0, 1))))
	for i, want := range []int{1, 1, 2} {
		if got := b.collects(t, "held", b.p.seen); got != 0 {
			t.Errorf("held by some: %d", got)
		}
		b.see(t, made(1, i+2, 9, api.VV{4}, lRem("k", dot(0, i+2))))
		if got := b.collects(t, "one less", b.p.seen); got != want {
			t.Errorf("behind %d: %d went, not %d", i, got, want)
		}
		b.is(t, "one less")
	}
}

// P17.3: each key by itself.
func TestCollectKeys(t *testing.T) {
	b := begun()
	b.see(t, inARow(0, root("k", "a"), root("j", "b"), root("i", "c"), push("i", "d", dot(0, 3)), del("k"), del("j"), lRem("i", dot(0, 3)))...)
	if got := b.collects(t, "keys", api.VV{5}); got != 1 {
		t.Errorf("%d went", got)
	}
	b.is(t, "k collected")
	if got := b.collects(t, "keys", api.VV{7}); got != 1 || b.s.Dead() != 1 {
		t.Errorf("%d went", got)
	}
	b.is(t, "j collected")
}

// P17.3: dead ones that name one another, as a text may tell them, hold one another.
func TestCollectRing(t *testing.T) {
	x := made(0, 1, 1, api.VV{0, 1}, push("k", "a", dot(1, 1)))
	y := made(1, 1, 1, api.VV{1}, push("k", "b", dot(0, 1)))
	z := made(2, 1, 1, api.VV{1}, push("k", "c", dot(0, 1)))
	text := glued(pieces(api.VV{1, 1, 1}, 1, nil, []wholeDead{{dot(2, 1), x}, {dot(2, 1), y}, {dot(0, 1), z}}))
	s := decodes(t, "a ring", text, api.OK)
	if got := s.Collect(api.VV{1, 1, 1}); got != 1 || s.Dead() != 2 {
		t.Errorf("%d went", got)
	}
}

// P17.3: of a long row all go at once, and none while a live one hangs on the last.
func TestCollectLongRow(t *testing.T) {
	const long = 5000
	s := New()
	for i := range long {
		ref := api.Dot{}
		if i > 0 {
			ref = dot(0, i)
		}
		s.Apply(made(0, i+1, i, api.VV{}, push("k", "v", ref)))
	}
	s.Apply(made(1, 1, long, api.VV{long - 1}, del("k")))
	if n := s.Collect(s.VV()); n != 0 || s.Dead() != long-1 || len(s.Items("k")) != 1 {
		t.Errorf("%d of a row that is held went, dead %d", n, s.Dead())
	}
	s.Apply(made(1, 2, long, api.VV{long}, del("k")))
	if n := s.Collect(s.VV()); n != long || s.Dead() != 0 {
		t.Errorf("%d of a row went, dead %d", n, s.Dead())
	}
}

// P17.3: histories, collected by whatever vectors, held against the document's words.
func TestCollectHistories(t *testing.T) {
	went, stayed := 0, 0
	for seed := range 400 {
		s := dice(seed)
		b := begun()
		for _, e := range s.history(60, 0, 1, 2, last) {
			b.see(t, e)
			if s.roll(12) == 0 {
				stable := b.p.seen
				for r, n := range stable {
					stable[r] = n - s.roll(3)*s.roll(3)
				}
				went += b.collects(t, "a history", stable)
				b.keeps(t, "a history")
			}
		}
		b.keeps(t, "a history")
		stayed += b.s.Dead()
	}
	if went < 300 || stayed < 300 {
		t.Errorf("%d went, %d stayed: this tests too little", went, stayed)
	}
}

// machine is a replica that collects, and its twin, which has seen the same and never does.
type machine struct {
	own, twin *Space
	made      []api.Event // what it made
}

// world is replicas that push behind items, and end items, which they have at that time.
type world struct {
	s    *dice
	all  []machine
	went int
}

// take lets a replica see an event, if it is ready there.
func (w *world) take(t *testing.T, r int, e api.Event) {
	t.Helper()
	m := w.all[r]
	if m.own.Ready(e) != m.twin.Ready(e) || m.own.Apply(e) != m.twin.Apply(e) {
		t.Fatalf("%v is seen by one of two alone", e)
	}
}

// make lets a replica make an event; like a client's it hangs on, or ends, an item that there is.
func (w *world) make(t *testing.T, r int) {
	t.Helper()
	m := &w.all[r]
	key := pick(w.s, "k", "k", "j")
	op := w.s.op(key, nil)
	if items := m.own.Items(key); len(items) > 0 && w.s.roll(6) > 0 {
		ref := pick(w.s, items...).Dot
		op = pick(w.s, push(key, "p", ref), push(key, "q", ref), root(key, "r"), lRem(key, ref), lRem(key, ref))
	}
	v := m.own.VV()
	e := made(r, v[r]+1, m.own.Time()+w.s.roll(2), v, op)
	m.made = append(m.made, e)
	w.take(t, r, e)
}

// meet lets a replica see some of another one's events, as far as they are ready.
func (w *world) meet(t *testing.T, r, other, most int) {
	t.Helper()
	from := w.all[r].own.VV()[other]
	for _, e := range w.all[other].made[from:] {
		if most == 0 {
			return
		}
		w.take(t, r, e)
		most--
	}
}

// meetAll lets a replica see all that there is.
func (w *world) meetAll(t *testing.T, r int) {
	t.Helper()
	for was := (api.VV{-1}); was != w.all[r].own.VV(); {
		was = w.all[r].own.VV()
		for other := range w.all {
			w.meet(t, r, other, -1)
		}
	}
}

// collect lets a replica collect that has seen all, by a vector that all have seen.
func (w *world) collect(t *testing.T, r int) {
	t.Helper()
	w.meetAll(t, r)
	stable := w.all[r].own.VV()
	for other, m := range w.all {
		if w.all[r].own.VV()[other] != len(m.made) {
			t.Fatalf("replica %d hasn't seen all of %d: this tests nothing", r, other)
		}
		for i, n := range m.own.VV() {
			stable[i] = min(stable[i], n)
		}
	}
	if w.s.roll(4) == 0 {
		stable[w.s.roll(len(w.all))] /= 2
	}
	w.went += w.all[r].own.Collect(stable)
}

// P17.6: where all have seen what is stable, and this one all that there is, what Collect takes away is never missed.
func TestCollectIsNeverSeen(t *testing.T) {
	keys := []string{"k", "j", "i"}
	went, items := 0, 0
	for seed := range 40 {
		s := dice(seed)
		w := world{s: &s}
		for range 2 + s.roll(3) {
			w.all = append(w.all, machine{own: New(), twin: New()})
		}
		for range 150 {
			r, other := s.roll(len(w.all)), s.roll(len(w.all))
			switch s.roll(8) {
			case 0:
				w.collect(t, r)
			case 1, 2, 3:
				w.meet(t, r, other, 1+s.roll(9))
			case 4:
				w.meetAll(t, r)
			default:
				w.make(t, r)
			}
			alike(t, "collected", toldBy(w.all[r].own, keys), toldBy(w.all[r].twin, keys))
		}
		// In the end all see all, and tell the same.
		for r := range w.all {
			w.meetAll(t, r)
			alike(t, "in the end", toldBy(w.all[r].own, keys), toldBy(w.all[0].twin, keys))
			items += len(w.all[r].own.Items("k"))
		}
		went += w.went
	}
	if went < 400 || items < 200 {
		t.Errorf("%d went, %d items: this tests too little", went, items)
	}
}

// P17.6: what isn't stable may still be named by one who hasn't seen its end, and is kept for that.
func TestCollectKeepsWhatMayBeNamed(t *testing.T) {
	b := begun()
	b.see(t, inARow(0, root("k", "a"), root("k", "b"), lRem("k", dot(0, 1)))...)
	// Replica 1 has seen a and b, and not yet the end of a.
	b.collects(t, "not stable", api.VV{2})
	b.see(t, made(1, 1, 9, api.VV{2}, push("k", "c", dot(0, 1))))
	b.see(t, made(1, 2, 10, api.VV{2}, push("k", "d", dot(0, 2))))
	b.is(t, "named")
	if got := values(b.s.Items("k")); got != "bdc" {
		t.Errorf("Items: %q", got)
	}
}
