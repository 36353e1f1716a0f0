package space

import (
	"math"
	"strings"
	"testing"

	"polyphony/api"
)

// The document's example: what b hangs on stays till b, too, was ended, and taken away.
func TestExample(t *testing.T) {
	b := begun()
	l := inARow(0, root("k", "a"), push("k", "b", dot(0, 1)), lRem("k", dot(0, 1)), lRem("k", dot(0, 2)))
	b.see(t, l[:3]...)
	b.is(t, "a ended")
	if got := values(b.s.Items("k")); got != "b" || b.s.Dead() != 1 {
		t.Errorf("Items %q, Dead %d", got, b.s.Dead())
	}
	if n := b.s.Collect(b.s.VV()); n != 0 || b.s.Dead() != 1 {
		t.Errorf("Collect while b hangs on a: %d, Dead %d", n, b.s.Dead())
	}
	b.see(t, l[3])
	b.is(t, "b ended")
	if b.s.Dead() != 2 || len(b.s.Items("k")) != 0 {
		t.Errorf("Dead %d", b.s.Dead())
	}
	if n := b.s.Collect(api.VV{3}); n != 0 {
		t.Errorf("Collect where b's end isn't stable: %d", n)
	}
	if n := b.s.Collect(api.VV{4}); n != 2 || b.s.Dead() != 0 {
		t.Errorf("Collect: %d, Dead %d", n, b.s.Dead())
	}
}

// P17.1: a space that has seen nothing: New's, the zero one, and what a nil one's text tells.
func TestNothingSeen(t *testing.T) {
	decoded, _ := Decode((*Space)(nil).Encode())
	for i, s := range []*Space{New(), {}, decoded} {
		if s == nil {
			t.Fatalf("%d: no space", i)
		}
		b := both{s: s}
		b.is(t, "nothing seen")
		if s.Collect(api.VV{top}) != 0 {
			t.Errorf("%d: something is collected", i)
		}
		b.is(t, "nothing collected")
		b.see(t, made(3, 1, 5, api.VV{}, set("k", "v")))
		b.is(t, "one seen")
	}
	if a, b := New(), New(); a == b || a.Apply(made(0, 1, 1, api.VV{}, set("k", "v"))) != api.OK || b.VV() != (api.VV{}) {
		t.Error("two spaces are one")
	}
}

// P17.1: events that can't be are ErrArg, ready or not; of those that can be those that aren't ready are ErrState.
func TestErrors(t *testing.T) {
	b := begun()
	b.see(t, inARow(1, set("k", "v"), root("l", "a"))...)
	b.see(t, made(0, 1, 9, api.VV{0, 2}, incr("n", 5)))
	right := made(1, 3, 4, api.VV{1, 2}, set("k", "w"))
	for what, spoil := range map[string]func(e *api.Event){
		"a dot of no replica":      func(e *api.Event) { e.Dot.R = 16 },
		"a replica below 0":        func(e *api.Event) { e.Dot.R = -1 },
		"the greatest replica":     func(e *api.Event) { e.Dot.R = math.MaxInt },
		"the number 0":             func(e *api.Event) { e.Dot.N = 0 },
		"the least number":         func(e *api.Event) { e.Dot.N = math.MinInt },
		"a number above all":       func(e *api.Event) { e.Dot.N, e.Deps[1] = top+1, top },
		"a time below 0":           func(e *api.Event) { e.Time = -1 },
		"a time above all":         func(e *api.Event) { e.Time = topTime + 1 },
		"Deps above its own":       func(e *api.Event) { e.Deps[1] = 3 },
		"Deps below its own":       func(e *api.Event) { e.Deps[1] = 1 },
		"Deps below 0":             func(e *api.Event) { e.Deps[7] = -1 },
		"Deps above all":           func(e *api.Event) { e.Deps[7] = top + 1 },
		"no kind":                  func(e *api.Event) { e.Op.Kind = 0 },
		"a kind above all":         func(e *api.Event) { e.Op.Kind = 12 },
		"no key":                   func(e *api.Event) { e.Op.Key = "" },
		"too long a key":           func(e *api.Event) { e.Op.Key = strings.Repeat("k", 65) },
		"too long a value":         func(e *api.Event) { e.Op.Value = strings.Repeat("v", 65) },
		"a field that isn't used":  func(e *api.Event) { e.Op.Field = "f" },
		"a number that isn't used": func(e *api.Event) { e.Op.Num = 1 },
		"a Ref that isn't used":    func(e *api.Event) { e.Op.Ref = dot(1, 1) },
		"a number too great":       func(e *api.Event) { e.Op = incr("k", topNum+1) },
		"a Ref that Deps hasn't":   func(e *api.Event) { e.Op = push("l", "b", dot(0, 2)) },
		"LRem of nothing":          func(e *api.Event) { e.Op = lRem("l", api.Dot{}) },
		"all of it":                func(e *api.Event) { *e = api.Event{} },
	} {
		e := right
		spoil(&e)
		b.refuses(t, what, e, api.ErrArg)
		// Neither is it ErrState where it isn't ready, either.
		e.Deps[9] = 1
		b.refuses(t, what+", and not ready", e, api.ErrArg)
	}
	b.refuses(t, "seen already", made(1, 2, 2, api.VV{}, root("l", "a")), api.ErrState)
	b.refuses(t, "seen already, another one", made(1, 1, 7, api.VV{}, del("k")), api.ErrState)
	b.refuses(t, "two above", made(1, 4, 4, api.VV{}, set("k", "w")), api.ErrState)
	b.refuses(t, "far above", made(1, top, 4, api.VV{}, set("k", "w")), api.ErrState)
	b.refuses(t, "two above nothing", made(2, 2, 4, api.VV{}, set("k", "w")), api.ErrState)
	for r := range api.MaxReplicas {
		if r != 1 {
			deps := b.p.seen
			deps[r]++
			b.refuses(t, "Deps one above", made(1, 3, 4, deps, set("k", "w")), api.ErrState)
		}
	}
	b.see(t, right)
	b.is(t, "the right one")
}

// P17.1: an event that has seen less than all, or nothing, is ready all the same.
func TestReadyOfLittle(t *testing.T) {
	b := begun()
	b.see(t, inARow(0, sAdd("k", "a"), sAdd("k", "b"), sAdd("k", "c"))...)
	b.see(t, made(5, 1, 1, api.VV{1}, sRem("k", "a")))
	b.see(t, made(6, 1, 1, api.VV{}, sRem("k", "b")))
	b.see(t, made(last, 1, 1, api.VV{3, 0, 0, 0, 0, 1}, sAdd("k", "d")))
	b.is(t, "all seen")
	if got := strings.Join(b.s.Members("k"), ""); got != "bcd" {
		t.Errorf("Members %q", got)
	}
}

// P17.1: asking whether an event is ready changes nothing.
func TestReadyChangesNothing(t *testing.T) {
	b := begun()
	e := made(0, 1, 5, api.VV{}, root("k", "a"))
	for range 3 {
		if !b.s.Ready(e) {
			t.Error("not ready")
		}
		b.is(t, "asked")
	}
	b.see(t, e)
	b.is(t, "seen")
}

// at is a space that has seen a vector, up to a time.
func at(t *testing.T, seen api.VV, time int) *both {
	t.Helper()
	b := &both{p: plain{seen: seen, time: time}}
	b.s = decodes(t, "a vector and a time", b.p.text(), api.OK)
	return b
}

// P17.1: the least and the greatest numbers and times.
func TestEdges(t *testing.T) {
	var most api.VV
	for r := range most {
		most[r] = top
	}
	for r := range api.MaxReplicas {
		b := begun()
		b.see(t, made(r, 1, 0, api.VV{}, set("k", "v")))
		b.is(t, "the time 0")
		b.see(t, made(r, 2, topTime, api.VV{}, set("k", "w")))
		b.is(t, "the last time")
		b.see(t, made(r, 3, 0, api.VV{}, set("k", "x")))
		b.is(t, "back at the time 0")
		if b.s.Time() != topTime {
			t.Errorf("Time: %d", b.s.Time())
		}

		nearly := most
		nearly[r]--
		b = at(t, nearly, 9)
		b.see(t, made(r, top, 10, most, root("k", "a")))
		b.is(t, "the last number")
		b.refuses(t, "the last number again", made(r, top, 10, most, root("k", "a")), api.ErrState)
		b.refuses(t, "one above", made(r, top+1, 10, api.VV{}, root("k", "a")), api.ErrArg)
		if b.s.VV() != most {
			t.Errorf("VV: %v", b.s.VV())
		}
	}
	b := at(t, api.VV{}, topTime)
	b.see(t, made(0, 1, topTime, api.VV{}, push("k", strings.Repeat("v", 64), api.Dot{})))
	b.see(t, made(0, 2, topTime, api.VV{}, zAdd(strings.Repeat("k", 64), strings.Repeat("f", 64), -topNum)))
	b.see(t, made(0, 3, topTime, api.VV{}, incr("n", topNum)))
	b.is(t, "the longest texts")
}

// P17.1: the time is the greatest one of all that were seen, also of those that add nothing, or were ended.
func TestTime(t *testing.T) {
	b := begun()
	for i, c := range []struct {
		time, want int
		op         api.Op
	}{
		{5, 5, set("k", "a")}, {3, 5, set("k", "b")}, {8, 8, del("nowhere")}, {9, 9, set("k", "c")}, {1, 9, del("k")}, {9, 9, incr("n", 1)},
	} {
		b.see(t, made(2, i+1, c.time, api.VV{}, c.op))
		b.is(t, "another one")
		if b.s.Time() != c.want {
			t.Errorf("Time behind %d: %d, not %d", c.time, b.s.Time(), c.want)
		}
	}
}

// holds is how many live and dead events a space keeps of a key, by its text.
func (b *both) holds(t *testing.T, what string, alive, dead int) {
	t.Helper()
	b.is(t, what)
	p, fault := plainDecode(b.s.Encode())
	if fault != api.OK || len(p.live) != alive || len(p.dead) != dead {
		t.Errorf("%s: %d, live %d, dead %d, not %d and %d", what, fault, len(p.live), len(p.dead), alive, dead)
	}
}

// P17.1: what each kind ends isn't live any more, and only a Push is dead then.
func TestEnded(t *testing.T) {
	for what, c := range map[string]struct {
		first, then api.Op
		alive, dead int
	}{
		"Set and Set":                 {set("k", "a"), set("k", "b"), 1, 0},
		"Set and Set of another key":  {set("k", "a"), set("j", "b"), 2, 0},
		"Set and Del":                 {set("k", "a"), del("k"), 0, 0},
		"Set and Del of another key":  {set("k", "a"), del("j"), 1, 0},
		"Incr and Incr":               {incr("k", 1), incr("k", 1), 2, 0},
		"Incr and Set":                {incr("k", 1), set("k", "a"), 2, 0},
		"Incr and Del":                {incr("k", 1), del("k"), 0, 0},
		"SAdd and SAdd":               {sAdd("k", "f"), sAdd("k", "f"), 1, 0},
		"SAdd and SRem":               {sAdd("k", "f"), sRem("k", "f"), 0, 0},
		"SAdd and SRem of another":    {sAdd("k", "f"), sRem("k", "g"), 1, 0},
		"SAdd and HDel":               {sAdd("k", "f"), hDel("k", "f"), 1, 0},
		"SAdd and Del":                {sAdd("k", "f"), del("k"), 0, 0},
		"HSet and HSet":               {hSet("k", "f", "a"), hSet("k", "f", "b"), 1, 0},
		"HSet and HDel":               {hSet("k", "f", "a"), hDel("k", "f"), 0, 0},
		"HSet and HDel of another":    {hSet("k", "f", "a"), hDel("k", "g"), 1, 0},
		"HSet and Del":                {hSet("k", "f", "a"), del("k"), 0, 0},
		"ZAdd and ZAdd":               {zAdd("k", "f", 1), zAdd("k", "f", 2), 1, 0},
		"ZAdd and ZRem":               {zAdd("k", "f", 1), zRem("k", "f"), 0, 0},
		"ZAdd and ZRem of another":    {zAdd("k", "f", 1), zRem("k", "g"), 1, 0},
		"ZAdd and Del":                {zAdd("k", "f", 1), del("k"), 0, 0},
		"Push and Push":               {root("k", "a"), root("k", "b"), 2, 0},
		"Push and Push behind it":     {root("k", "a"), push("k", "b", dot(2, 1)), 2, 0},
		"Push and Set":                {root("k", "a"), set("k", "b"), 2, 0},
		"Push and LRem":               {root("k", "a"), lRem("k", dot(2, 1)), 0, 1},
		"Push and LRem of another":    {root("k", "a"), lRem("j", dot(2, 1)), 1, 0},
		"Push and Del":                {root("k", "a"), del("k"), 0, 1},
		"Push and Del of another key": {root("k", "a"), del("j"), 1, 0},
		"nothing and Del":             {del("k"), del("k"), 0, 0},
		"nothing and LRem":            {sRem("k", "f"), lRem("k", dot(2, 1)), 0, 0},
	} {
		b := begun()
		b.see(t, inARow(2, c.first, c.then)...)
		b.holds(t, what, c.alive, c.dead)

		// What the second one hadn't seen it doesn't end.
		if c.then.Kind == api.LRem || c.then.Ref != (api.Dot{}) {
			continue
		}
		b = begun()
		b.see(t, made(2, 1, 1, api.VV{}, c.first), made(4, 1, 9, api.VV{}, c.then))
		adds := 0
		for _, o := range []api.Op{c.first, c.then} {
			if o.Kind%2 == 1 && o.Kind != api.Del || o.Kind == api.Incr {
				adds++
			}
		}
		b.holds(t, what+" side by side", adds, 0)
	}
}

// P17.1: several at once end a Push; it is dead but once, ended by the one that was seen first.
func TestEndedBySeveral(t *testing.T) {
	a := made(0, 1, 1, api.VV{}, root("k", "a"))
	on := made(1, 1, 2, api.VV{1}, push("k", "b", a.Dot))
	ends := []api.Event{
		made(2, 1, 9, api.VV{1}, lRem("k", a.Dot)),
		made(3, 1, 3, api.VV{1, 1}, del("k")),
		made(4, 1, 5, api.VV{1}, lRem("k", a.Dot)),
	}
	for _, order := range [][]int{{0, 1, 2}, {0, 2, 1}, {1, 0, 2}, {1, 2, 0}, {2, 0, 1}, {2, 1, 0}} {
		b := begun()
		b.see(t, a, on)
		for _, i := range order {
			b.see(t, ends[i])
			b.is(t, "ended")
		}
		p, _ := plainDecode(b.s.Encode())
		if len(p.dead) != 2 || p.dead[0].e != a || p.dead[0].by != ends[order[0]].Dot || p.dead[1].by != ends[1].Dot {
			t.Errorf("in the order %v: dead %v", order, p.dead)
		}
	}
}

// P17.1: one that ends several: each Push of the key that it covers is dead, ended by it.
func TestEndsSeveral(t *testing.T) {
	b := begun()
	l := inARow(1, root("k", "a"), push("k", "b", dot(1, 1)), root("j", "c"), set("k", "t"), push("k", "d", dot(1, 2)))
	b.see(t, l...)
	b.see(t, made(0, 1, 9, api.VV{0, 4}, del("k")))
	b.is(t, "Del of what it had seen")
	if got := values(b.s.Items("k")); got != "d" || b.s.Dead() != 2 || values(b.s.Items("j")) != "c" {
		t.Errorf("Items %q, Dead %d", got, b.s.Dead())
	}
	p, _ := plainDecode(b.s.Encode())
	for _, x := range p.dead {
		if x.by != dot(0, 1) {
			t.Errorf("%v is ended by %v", x.e, x.by)
		}
	}
}
