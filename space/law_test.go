package space

import (
	"testing"

	"polyphony/api"
	"polyphony/live"
)

// unended is a text but for who is told to have ended dead ones.
func unended(t *testing.T, text string) string {
	t.Helper()
	p, fault := plainDecode(text)
	if fault != api.OK {
		t.Fatalf("%q is no text: %d", text, fault)
	}
	for i := range p.dead {
		p.dead[i].by = api.Dot{}
	}
	return glued(pieces(p.seen, p.time, p.live, p.dead))
}

// find is the event with a dot.
func find(l []api.Event, d api.Dot) api.Event {
	for _, e := range l {
		if e.Dot == d {
			return e
		}
	}
	return api.Event{}
}

// P17.5: event by event, what is told is what the layers tell of all that were seen, in whatever order they come; in the
// end the texts are the same, but for who ended.
func TestWhateverTheOrder(t *testing.T) {
	dead, other := 0, 0
	for seed := range 120 {
		s := dice(seed)
		l := s.history(30, [][]int{{0, 1}, {0, 1, 2}, {3, 7, last}, {0, 1, 2, 3, 4, 5}}[seed%4]...)
		first := begun()
		for _, e := range l {
			first.see(t, e)
			first.is(t, "as they were made")
		}
		for range 3 {
			b := begun()
			for i, e := range s.mixed(t, l) {
				b.see(t, e)
				if i%4 == 0 {
					b.is(t, "in another order")
				}
			}
			b.is(t, "all, in another order")
			if got, want := unended(t, b.s.Encode()), unended(t, first.s.Encode()); got != want {
				t.Fatalf("at seed %d: the text is %q, not %q", seed, got, want)
			}
			if b.s.Encode() != first.s.Encode() {
				other++
			}
			alike(t, "in another order", toldBy(b.s, keysOf(l)), toldBy(first.s, keysOf(l)))
			// Who is told to have ended one has ended it.
			p, _ := plainDecode(b.s.Encode())
			for _, x := range p.dead {
				dead++
				if !live.Ends(find(l, x.by), x.e) {
					t.Fatalf("at seed %d: %v isn't ended by %v", seed, x.e, x.by)
				}
			}
		}
	}
	if dead < 500 || other < 10 {
		t.Errorf("dead %d, texts that are unlike %d: this tests too little", dead, other)
	}
}

// P17.5: each order of few events in which all are ready.
func TestEachOrder(t *testing.T) {
	a := made(0, 1, 5, api.VV{}, root("k", "a"))
	l := []api.Event{
		a, made(0, 2, 6, api.VV{}, lRem("k", a.Dot)), made(1, 1, 4, api.VV{1}, push("k", "b", a.Dot)), made(1, 2, 9, api.VV{1}, del("k")),
		made(2, 1, 9, api.VV{1}, push("k", "c", a.Dot)), made(2, 2, 1, api.VV{1, 1}, set("k", "v")), made(3, 1, 2, api.VV{}, set("k", "w")),
	}
	many := 0
	var from func(left []api.Event, p plain)
	from = func(left []api.Event, p plain) {
		if len(left) == 0 {
			many++
			b := begun()
			b.see(t, p.all...)
			b.is(t, "an order")
			return
		}
		for i, e := range left {
			if p.isReady(e) {
				q := plain{}
				for _, x := range p.all {
					q.see(x)
				}
				q.see(e)
				from(append(append([]api.Event{}, left[:i]...), left[i+1:]...), q)
			}
		}
	}
	from(l, plain{})
	if many < 50 {
		t.Errorf("only %d orders: this tests too little", many)
	}
}

// P17.5: what is decoded goes on as what was encoded would have: it sees, refuses and collects the same.
func TestDecodedGoesOn(t *testing.T) {
	for seed := range 40 {
		s := dice(seed)
		l := s.mixed(t, s.history(40, 0, 1, last))
		b := begun()
		for i, e := range l {
			again := &both{s: decodes(t, "midway", b.s.Encode(), api.OK), p: b.p}
			again.keeps(t, "decoded")
			if s.roll(2) == 0 {
				b.s = again.s
			}
			for _, x := range l {
				if b.s.Ready(x) != b.p.isReady(x) || again.s.Ready(x) != b.p.isReady(x) {
					t.Fatalf("at seed %d: whether %v is ready", seed, x)
				}
			}
			b.see(t, e)
			if i%7 == 6 {
				b.refuses(t, "seen already", e, api.ErrState)
				stable := b.p.seen
				stable[s.roll(2)] /= 2
				twin := decodes(t, "ahead of collecting", b.s.Encode(), api.OK)
				if got, want := twin.Collect(stable), b.s.Collect(stable); got != want || twin.Encode() != b.s.Encode() {
					t.Fatalf("at seed %d: of what is decoded %d went, not %d", seed, got, want)
				}
				b.p.collect(stable)
			}
			b.keeps(t, "gone on")
		}
	}
}

// P17.5: the histories are ones in which much is live, and much is dead, of keys of all types.
func TestHistories(t *testing.T) {
	alive, dead, all := 0, 0, 0
	var types [7]int
	for seed := range 300 {
		s := dice(seed)
		b := begun()
		b.see(t, s.history(40, 0, 1, 2)...)
		alive, dead, all = alive+len(b.p.live), dead+b.s.Dead(), all+len(b.p.all)
		for _, key := range []string{"k", "j", "i"} {
			types[b.s.Type(key)]++
		}
	}
	if alive*5 < all || alive*4 > all*3 || dead*20 < all {
		t.Errorf("of %d events %d are live, %d dead: this tests too little", all, alive, dead)
	}
	for is, n := range types {
		if n < 15 {
			t.Errorf("only %d keys are of the type %d: this tests too little", n, is)
		}
	}
}
