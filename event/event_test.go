package event

import (
	"math"
	"strings"
	"testing"

	"polyphony/api"
)

// kinds is all kinds of operations.
func kinds() []int {
	return []int{
		api.Set, api.Incr, api.SAdd, api.SRem, api.HSet, api.HDel, api.ZAdd, api.ZRem, api.Push, api.LRem, api.Del,
	}
}

// noKinds is numbers that are no kind.
func noKinds() []int {
	return []int{0, 12, 13, -1, -2, -11, 1 << 8, 1<<8 + 1, 1 << 32, 1<<32 + 1, math.MinInt, math.MinInt + 1, math.MaxInt}
}

// uses is what operations of a kind use, by the document's list: F for Field, V for Value, N for Num, R for Ref.
func uses(kind int) string {
	return []string{"", "V", "N", "F", "F", "FV", "F", "FN", "F", "VR", "R", ""}[kind]
}

func many(n int) string { return strings.Repeat("x", n) }

// anEvent is an ordinary event of a kind, the eighth one of replica 5.
func anEvent(kind int) api.Event {
	e := api.Event{Dot: api.Dot{R: 5, N: 8}, Time: 327680, Op: api.Op{Kind: kind, Key: "key"}}
	e.Deps = api.VV{3, 0, 300, 1, 0, 7, 0, 0, 0, 0, 0, 0, 0, 0, 0, 20000}
	for _, u := range uses(kind) {
		switch u {
		case 'F':
			e.Op.Field = "field"
		case 'V':
			e.Op.Value = "a value"
		case 'N':
			e.Op.Num = -200
		case 'R':
			e.Op.Ref = api.Dot{R: 2, N: 299}
		}
	}
	return e
}

// change is a way in which an event is made another one, and whether it can be then.
type change struct {
	name string
	kind int
	make func(e *api.Event)
	can  bool
}

// placeChanges is the edges of the dot, of Deps, and of the time.
func placeChanges() []change {
	at := func(r, n, seen int) func(e *api.Event) {
		return func(e *api.Event) {
			e.Dot = api.Dot{R: r, N: n}
			if r >= 0 && r < api.MaxReplicas {
				e.Deps[r] = seen
			}
		}
	}
	deps := func(r, n int) func(e *api.Event) { return func(e *api.Event) { e.Deps[r] = n } }
	time := func(n int) func(e *api.Event) { return func(e *api.Event) { e.Time = n } }
	return []change{
		{"the first event", api.Set, at(5, 1, 0), true},
		{"the second event", api.Set, at(5, 2, 1), true},
		{"the last event", api.Set, at(5, api.MaxSeq, api.MaxSeq-1), true},
		{"the first replica", api.Set, at(0, 4, 3), true},
		{"the last replica", api.Set, at(15, 4, 3), true},
		{"the number 0", api.Set, at(5, 0, 0), false},
		{"the number 0, -1 seen", api.Set, at(5, 0, -1), false},
		{"a number below 0", api.Set, at(5, -1, -2), false},
		{"a number above all", api.Set, at(5, api.MaxSeq+1, api.MaxSeq), false},
		{"the greatest number", api.Set, at(5, math.MaxInt, api.MaxSeq), false},
		{"the least number", api.Set, at(5, math.MinInt, math.MaxInt), false},
		{"a replica below 0", api.Set, at(-1, 1, 0), false},
		{"a replica above all", api.Set, at(16, 1, 0), false},
		{"the greatest replica", api.Set, at(math.MaxInt, 1, 0), false},
		{"the least replica", api.Set, at(math.MinInt, 1, 0), false},
		{"Deps one too great", api.Set, deps(5, 8), false},
		{"Deps one too small", api.Set, deps(5, 6), false},
		{"Deps of nothing", api.Set, deps(5, 0), false},
		{"Deps full elsewhere", api.Set, deps(9, api.MaxSeq), true},
		{"Deps above all elsewhere", api.Set, deps(9, api.MaxSeq+1), false},
		{"Deps below 0 elsewhere", api.Set, deps(15, -1), false},
		{"Deps below 0 at the first", api.Set, deps(0, -1), false},
		{"the time 0", api.Set, time(0), true},
		{"the time 1", api.Set, time(1), true},
		{"the last time", api.Set, time(api.MaxTime), true},
		{"a time above all", api.Set, time(api.MaxTime + 1), false},
		{"the greatest time", api.Set, time(math.MaxInt), false},
		{"a time below 0", api.Set, time(-1), false},
		{"the least time", api.Set, time(math.MinInt), false},
	}
}

// textChanges is the edges of the texts.
func textChanges() []change {
	key := func(n int) func(e *api.Event) { return func(e *api.Event) { e.Op.Key = many(n) } }
	field := func(n int) func(e *api.Event) { return func(e *api.Event) { e.Op.Field = many(n) } }
	value := func(n int) func(e *api.Event) { return func(e *api.Event) { e.Op.Value = many(n) } }
	var all []change
	for _, kind := range kinds() {
		all = append(all,
			change{"no key", kind, key(0), false},
			change{"a key of one byte", kind, key(1), true},
			change{"the longest key", kind, key(api.MaxText), true},
			change{"too long a key", kind, key(api.MaxText + 1), false},
			change{"a far too long key", kind, key(1 << 16), false},
			change{"a key of any bytes", kind, func(e *api.Event) { e.Op.Key = "\x00\xff\n\x80" }, true},
		)
		if strings.Contains(uses(kind), "F") {
			all = append(all,
				change{"no field", kind, field(0), true},
				change{"a field of one byte", kind, field(1), true},
				change{"the longest field", kind, field(api.MaxText), true},
				change{"too long a field", kind, field(api.MaxText + 1), false},
			)
		}
		if strings.Contains(uses(kind), "V") {
			all = append(all,
				change{"no value", kind, value(0), true},
				change{"a value of one byte", kind, value(1), true},
				change{"the longest value", kind, value(api.MaxText), true},
				change{"too long a value", kind, value(api.MaxText + 1), false},
			)
		}
	}
	return all
}

// numChanges is the edges of Num.
func numChanges() []change {
	num := func(n int) func(e *api.Event) { return func(e *api.Event) { e.Op.Num = n } }
	var all []change
	for _, kind := range []int{api.Incr, api.ZAdd} {
		all = append(all,
			change{"Num 0", kind, num(0), true},
			change{"Num 1", kind, num(1), true},
			change{"the greatest Num", kind, num(api.MaxNum), true},
			change{"the least Num", kind, num(-api.MaxNum), true},
			change{"Num above all", kind, num(api.MaxNum + 1), false},
			change{"Num below all", kind, num(-api.MaxNum - 1), false},
			change{"the greatest int as Num", kind, num(math.MaxInt), false},
			change{"the least int as Num", kind, num(math.MinInt), false},
		)
	}
	return all
}

// refChanges is the edges of Ref.
func refChanges() []change {
	ref := func(r, n int) func(e *api.Event) { return func(e *api.Event) { e.Op.Ref = api.Dot{R: r, N: n} } }
	var all []change
	for _, kind := range []int{api.Push, api.LRem} {
		all = append(all,
			change{"a ref of nothing", kind, ref(0, 0), kind == api.Push},
			change{"a ref of the first that was seen", kind, ref(2, 1), true},
			change{"a ref of the last that was seen", kind, ref(2, 300), true},
			change{"a ref of one that wasn't seen", kind, ref(2, 301), false},
			change{"a ref of a replica of which nothing was seen", kind, ref(1, 1), false},
			change{"a ref of its own replica", kind, ref(5, 7), true},
			change{"a ref of itself", kind, ref(5, 8), false},
			change{"a ref of the last replica", kind, ref(15, 20000), true},
			change{"a ref with the number 0", kind, ref(2, 0), false},
			change{"a ref with a number below 0", kind, ref(2, -1), false},
			change{"a ref to no replica", kind, ref(16, 1), false},
			change{"a ref to no replica, with the number 0", kind, ref(16, 0), false},
			change{"a ref to a replica below 0", kind, ref(-1, 1), false},
			change{"a ref above all", kind, ref(2, api.MaxSeq+1), false},
			change{"the greatest ref", kind, ref(math.MaxInt, math.MaxInt), false},
			change{"the least ref", kind, ref(math.MinInt, math.MinInt), false},
		)
	}
	return all
}

// unusedChanges gives each kind what it doesn't use, one thing at a time.
func unusedChanges() []change {
	var all []change
	for _, kind := range kinds() {
		for _, c := range []struct {
			part string
			make func(e *api.Event)
		}{
			{"F", func(e *api.Event) { e.Op.Field = "f" }},
			{"V", func(e *api.Event) { e.Op.Value = "v" }},
			{"N", func(e *api.Event) { e.Op.Num = 1 }},
			{"N", func(e *api.Event) { e.Op.Num = -1 }},
			{"R", func(e *api.Event) { e.Op.Ref = api.Dot{R: 0, N: 1} }},
			{"R", func(e *api.Event) { e.Op.Ref = api.Dot{R: 2, N: 0} }},
			{"R", func(e *api.Event) { e.Op.Ref = api.Dot{R: 2, N: 299} }},
		} {
			if !strings.Contains(uses(kind), c.part) {
				all = append(all, change{c.part + " that isn't used", kind, c.make, false})
			}
		}
	}
	return all
}

// kindChanges gives an event kinds that are none.
func kindChanges() []change {
	var all []change
	for _, no := range noKinds() {
		all = append(all, change{"no kind", api.Del, func(e *api.Event) { e.Op.Kind = no }, false})
	}
	return all
}

// allChanges is all of these, and each kind as it is.
func allChanges() []change {
	var all []change
	for _, kind := range kinds() {
		all = append(all, change{"as it is", kind, func(*api.Event) {}, true})
	}
	for _, l := range [][]change{
		placeChanges(), textChanges(), numChanges(), refChanges(), unusedChanges(), kindChanges(),
	} {
		all = append(all, l...)
	}
	return all
}

// changed is the event that a change makes.
func (c change) changed() api.Event {
	e := anEvent(c.kind)
	c.make(&e)
	return e
}

// P5.1: whether an event can be, for each kind, at each edge, and with each thing that may be wrong.
func TestRight(t *testing.T) {
	for _, c := range allChanges() {
		if Right(c.changed()) != c.can {
			t.Errorf("kind %d, %s: Right is %v", c.kind, c.name, !c.can)
		}
	}
}

// P5.1: the event of nothing can't be; the document's example, with an empty vector, can.
func TestRightOfLittle(t *testing.T) {
	if Right(api.Event{}) {
		t.Error("Right of the zero event")
	}
	if !Right(example()) {
		t.Error("Right of the example")
	}
}

// P5.1: whether operations of a kind add.
func TestAdds(t *testing.T) {
	adds := []int{api.Set, api.Incr, api.SAdd, api.HSet, api.ZAdd, api.Push}
	takes := []int{api.SRem, api.HDel, api.ZRem, api.LRem, api.Del}
	for _, kind := range adds {
		if !Adds(kind) {
			t.Errorf("Adds(%d) is false", kind)
		}
	}
	for _, kind := range append(takes, noKinds()...) {
		if Adds(kind) {
			t.Errorf("Adds(%d) is true", kind)
		}
	}
}

// P5.1: b covers a, if b's Deps has a's dot; never, where that can't be.
func TestCovers(t *testing.T) {
	b := api.VV{2, 1, api.MaxSeq, 0, math.MaxInt, -1, math.MinInt}
	b[15] = 7
	for _, c := range []struct {
		r, n int
		want bool
	}{
		{0, 1, true}, {0, 2, true}, {0, 3, false}, {1, 1, true}, {1, 2, false},
		{2, api.MaxSeq, true}, {3, 1, false}, {15, 7, true}, {15, 8, false},
		// Dots that can't be; the vector's numbers would let some of them pass.
		{0, 0, false}, {0, -1, false}, {0, math.MinInt, false}, {3, 0, false},
		{2, api.MaxSeq + 1, false}, {4, api.MaxSeq + 1, false}, {4, math.MaxInt, false}, {4, 0, false},
		{5, -1, false}, {5, -2, false}, {6, math.MinInt, false},
		{-1, 1, false}, {16, 1, false}, {math.MaxInt, 1, false}, {math.MinInt, 1, false}, {-1, -1, false},
		// A vector with numbers that can't be has the dots that can be, all the same.
		{4, 1, true}, {4, api.MaxSeq, true}, {5, 1, false}, {6, 1, false},
	} {
		a := api.Event{Dot: api.Dot{R: c.r, N: c.n}}
		if Covers(api.Event{Deps: b}, a) != c.want {
			t.Errorf("Covers of the dot %d, %d is %v", c.r, c.n, !c.want)
		}
	}
}

// P5.1: Covers hangs on b's Deps and a's dot, and on nothing else of the two; no event covers itself.
func TestCoversLooksAtNothingElse(t *testing.T) {
	for _, kind := range kinds() {
		b := anEvent(kind)
		a := api.Event{Dot: api.Dot{R: 2, N: 300}, Time: b.Time + 1, Deps: api.VV{5: 100}}
		if !Covers(b, a) || !Covers(b, api.Event{Dot: a.Dot}) || !Covers(api.Event{Deps: b.Deps}, a) {
			t.Errorf("kind %d doesn't cover what it had seen", kind)
		}
		a.Dot.N++
		if Covers(b, a) || Covers(b, api.Event{Dot: a.Dot}) || Covers(api.Event{Deps: b.Deps}, a) {
			t.Errorf("kind %d covers what it hadn't seen", kind)
		}
		if Covers(b, b) {
			t.Errorf("kind %d covers itself", kind)
		}
	}
}

// P5.1: the time counts first, then the replica's number, then the event's own.
func TestLater(t *testing.T) {
	at := func(time, r, n int) api.Event { return api.Event{Time: time, Dot: api.Dot{R: r, N: n}} }
	for _, c := range []struct {
		b, a api.Event
		want bool
	}{
		{at(9, 1, 1), at(8, 1, 2), true},
		{at(9, 1, 1), at(8, 2, 1), true},
		{at(9, 0, 1), at(8, 15, api.MaxSeq), true},
		{at(8, 15, api.MaxSeq), at(9, 0, 1), false},
		{at(9, 2, 1), at(9, 1, 5), true},
		{at(9, 1, 5), at(9, 2, 1), false},
		{at(9, 1, 5), at(9, 1, 4), true},
		{at(9, 1, 4), at(9, 1, 5), false},
		{at(9, 1, 5), at(9, 1, 5), false},
		{at(0, 0, 1), at(0, 0, 1), false},
		{at(api.MaxTime, 0, 1), at(api.MaxTime-1, 0, 1), true},
		// Numbers so far apart that their difference wraps round.
		{at(math.MaxInt, 0, 1), at(math.MinInt, 0, 1), true},
		{at(math.MinInt, 0, 1), at(math.MaxInt, 0, 1), false},
		{at(0, math.MaxInt, 1), at(0, math.MinInt, 1), true},
		{at(0, math.MinInt, 1), at(0, math.MaxInt, 1), false},
		{at(0, 0, math.MaxInt), at(0, 0, math.MinInt), true},
		{at(0, 0, math.MinInt), at(0, 0, math.MaxInt), false},
	} {
		if Later(c.b, c.a) != c.want {
			t.Errorf("Later of %v and %v is %v", c.b, c.a, !c.want)
		}
	}
}

// P5.1: Later looks neither at Deps nor at the operation.
func TestLaterLooksAtNothingElse(t *testing.T) {
	for _, kind := range kinds() {
		b, a := anEvent(kind), anEvent(api.Del)
		a.Deps, a.Op.Key = api.VV{15: api.MaxSeq}, "zzz"
		if Later(b, a) || Later(a, b) {
			t.Errorf("kind %d: of two with one time and one dot, one is later", kind)
		}
	}
}

// someEvents is events at few times, with few dots, so that many of them are alike in part.
func someEvents() []api.Event {
	var all []api.Event
	for _, time := range []int{0, 1, 327680, api.MaxTime} {
		for _, r := range []int{0, 1, 7, 15} {
			for _, n := range []int{1, 2, api.MaxSeq} {
				e := api.Event{Dot: api.Dot{R: r, N: n}, Time: time, Op: api.Op{Kind: api.Del, Key: "k"}}
				e.Deps[r] = n - 1
				all = append(all, e)
			}
		}
	}
	return all
}

// P5.3: Later is an order: of two with unlike dots just one is later, none is later than itself, and
// what is later than a later one is later.
func TestLaterIsAnOrder(t *testing.T) {
	l := someEvents()
	for _, a := range l {
		if Later(a, a) {
			t.Errorf("%v is later than itself", a)
		}
		for _, b := range l {
			if a.Dot != b.Dot && Later(a, b) == Later(b, a) {
				t.Errorf("%v and %v: Later is %v both ways", a, b, Later(a, b))
			}
			for _, c := range l {
				if Later(c, b) && Later(b, a) && !Later(c, a) {
					t.Errorf("%v, %v, %v: no order", a, b, c)
				}
			}
		}
	}
}
