package peer

import (
	"math"
	"reflect"
	"slices"
	"testing"

	"polyphony/api"
)

// The document's example: events 1 and 2 of replica 0, 1 of replica 1.
func TestExample(t *testing.T) {
	l := filled(at(0, 1, 1), at(0, 2, 2), at(1, 1, 3))
	tells(t, "one", l, api.VV{1, 0}, api.VV{2, 1}, 1, at(0, 2, 2))
	tells(t, "both", l, api.VV{1, 0}, api.VV{2, 1}, 2, at(0, 2, 2), at(1, 1, 3))
}

// P20.1: New's log is without events; so is the zero one. Both take events.
func TestEmpty(t *testing.T) {
	var zero Log
	for _, l := range []*Log{New(), &zero, new(Log)} {
		is(t, "new", l)
		for _, v := range []api.VV{{}, {1}, all(top), all(math.MinInt), all(math.MaxInt)} {
			tells(t, "new", l, api.VV{}, v, 9)
			tells(t, "new", l, v, all(top), math.MaxInt)
			trims(t, "new", l, v, 0)
		}
		is(t, "still", l)
		l.Add(at(3, 1, 1))
		is(t, "with one", l, at(3, 1, 1))
		tells(t, "with one", l, api.VV{}, all(top), 9, at(3, 1, 1))
		trims(t, "with one", l, all(1), 1)
		is(t, "without it", l)
	}
}

// P20.1: each event stands behind the others, be it of whatever dot, a dot that is there among them.
func TestAdd(t *testing.T) {
	l, want := New(), []api.Event{}
	add := func(e api.Event) {
		l.Add(e)
		want = append(want, e)
		is(t, "added", l, want...)
	}
	for i, d := range []api.Dot{{R: 3, N: 7}, {R: 0, N: 2}, {R: 0, N: 1}, {R: last, N: top}, {R: 0, N: 2}, {R: 0, N: 2}} {
		add(at(d.R, d.N, i))
	}
	add(want[0])
	add(api.Event{})
	for i, d := range wrongDots() {
		add(at(d.R, d.N, i))
	}
	full := api.Event{Dot: api.Dot{R: 1, N: 2}, Time: 3, Deps: all(4), Op: api.Op{Kind: 5, Key: "6", Field: "7", Value: "8", Num: 9, Ref: api.Dot{R: 10, N: 11}}}
	add(full)
	tells(t, "the whole event", l, put(all(top), 1, 1), all(top), 9, full)
}

// P20.1: For by what the vector has, at the number itself and at those beside it.
func TestForLacks(t *testing.T) {
	for _, r := range []int{0, 1, 7, last} {
		for _, n := range []int{1, 2, 77, top - 1, top} {
			e := at(r, n, 5)
			l := filled(e)
			tells(t, "one less", l, put(api.VV{}, r, n-1), all(top), 9, e)
			tells(t, "just it", l, put(api.VV{}, r, n), all(top), 9)
			tells(t, "one more", l, put(api.VV{}, r, n+1), all(top), 9)
			tells(t, "all of others alone", l, put(all(top), r, n-1), all(top), 9, e)
			tells(t, "told just it", l, api.VV{}, put(api.VV{}, r, n), 9, e)
			tells(t, "told one more", l, api.VV{}, put(api.VV{}, r, n+1), 9, e)
			tells(t, "told one less", l, api.VV{}, put(all(top), r, n-1), 9)
			tells(t, "told less than seen", l, put(api.VV{}, r, n), put(api.VV{}, r, n-1), 9)
			is(t, "For takes nothing away", l, e)
		}
	}
}

// P20.1: the order is the log's, not that of dots or times; those that aren't told between others are passed over, and don't count.
func TestForOrder(t *testing.T) {
	l := filled(at(5, 1, 9), at(1, 1, 8), at(5, 2, 7), at(0, 1, 6), at(1, 2, 5), at(5, 3, 4), at(0, 2, 3))
	v, told := put(api.VV{0, 1}, 5, 1), put(api.VV{1, 2}, 5, 3)
	want := []api.Event{at(5, 2, 7), at(0, 1, 6), at(1, 2, 5), at(5, 3, 4)}
	for most := range 7 {
		tells(t, "some", l, v, told, most, want[:min(most, 4)]...)
	}
	// An order that no replica sees them in is the log's all the same.
	l = filled(at(0, 3, 1), at(0, 1, 2), at(0, 2, 3), at(0, 3, 4))
	tells(t, "backwards, and twice", l, api.VV{1}, api.VV{9}, 9, at(0, 3, 1), at(0, 2, 3), at(0, 3, 4))
	tells(t, "the first two", l, api.VV{1}, api.VV{9}, 2, at(0, 3, 1), at(0, 2, 3))
}

// P20.1, R1: at most so many; none, if that is 0 or less; all, if it is more than there are, be it ever so great.
func TestForMost(t *testing.T) {
	events := []api.Event{at(0, 1, 1), at(0, 2, 2), at(1, 1, 3), at(0, 3, 4)}
	l := filled(events...)
	for _, most := range []int{0, -1, -2, math.MinInt, math.MinInt + 1, -1 << 32} {
		tells(t, "none", l, api.VV{}, all(top), most)
	}
	for most := 1; most <= 4; most++ {
		tells(t, "some", l, api.VV{}, all(top), most, events[:most]...)
	}
	for _, most := range []int{5, 8, 1 << 32, math.MaxInt - 1, math.MaxInt} {
		tells(t, "all", l, api.VV{}, all(top), most, events...)
	}
}

// DOC.md's example 8: seventeen events that one replica lacks come by three answers: eight, eight, and one.
func TestBatches(t *testing.T) {
	l, v, told := New(), api.VV{}, api.VV{17}
	for n := 1; n <= 17; n++ {
		l.Add(at(0, n, n))
	}
	for _, want := range []int{8, 8, 1, 0} {
		answer := l.For(v, told, api.MaxBatch)
		if len(answer) != want {
			t.Fatalf("%d events, want %d", len(answer), want)
		}
		for _, e := range answer {
			if e != at(0, v[0]+1, v[0]+1) {
				t.Fatalf("behind %v: %v", v, e)
			}
			v[0]++
		}
	}
}

// P20.1: Trim takes away what the vector has, all of a dot's, and tells how many; the others stay in order.
func TestTrim(t *testing.T) {
	events := []api.Event{at(2, 1, 1), at(0, 1, 2), at(2, 2, 3), at(1, 1, 4), at(0, 2, 5), at(2, 2, 6)}
	l := filled(events...)
	trims(t, "nothing", l, api.VV{}, 0)
	trims(t, "of others", l, put(api.VV{}, last, top), 0)
	is(t, "all", l, events...)
	trims(t, "one", l, api.VV{1}, 1)
	is(t, "without it", l, events[0], events[2], events[3], events[4], events[5])
	trims(t, "once more", l, api.VV{1}, 0)
	trims(t, "a dot that is there twice", l, api.VV{0, 0, 2}, 3)
	is(t, "without them", l, events[3], events[4])
	tells(t, "of what is left", l, api.VV{}, all(top), 9, events[3], events[4])
	l.Add(events[0])
	is(t, "with one that was gone", l, events[3], events[4], events[0])
	trims(t, "all", l, all(top), 3)
	is(t, "none", l)
	trims(t, "of none", l, all(top), 0)
}

// P20.1: Trim at the number itself and at those beside it.
func TestTrimEdges(t *testing.T) {
	for _, r := range []int{0, 1, 7, last} {
		for _, n := range []int{1, 2, 77, top - 1, top} {
			e := at(r, n, 5)
			for _, v := range []api.VV{put(api.VV{}, r, n), put(api.VV{}, r, n+1), all(n), all(math.MaxInt)} {
				l := filled(e)
				trims(t, "has it", l, v, 1)
				is(t, "has it", l)
			}
			for _, v := range []api.VV{put(api.VV{}, r, n-1), put(all(top), r, n-1), put(all(top), r, -1), {}, all(math.MinInt)} {
				l := filled(e)
				trims(t, "hasn't it", l, v, 0)
				is(t, "hasn't it", l, e)
			}
		}
	}
}

// P20.1, R1: dots that can't be no vector has: they are kept, but never told, nor trimmed.
func TestWrongDots(t *testing.T) {
	for _, d := range wrongDots() {
		e := at(d.R, d.N, 1)
		l := filled(at(0, 1, 0), e, at(0, 2, 2))
		for _, told := range []api.VV{all(top), all(top + 1), all(math.MaxInt)} {
			for _, v := range []api.VV{{}, all(-1), all(math.MinInt)} {
				tells(t, "past it", l, v, told, 9, at(0, 1, 0), at(0, 2, 2))
				tells(t, "two", l, v, told, 2, at(0, 1, 0), at(0, 2, 2))
			}
			trims(t, "others", l, told, 2)
			is(t, "it alone", l, e)
			l = filled(at(0, 1, 0), e, at(0, 2, 2))
		}
	}
}

// P20.1, R1: vectors that can't be are asked as the words say, number for number.
func TestWrongVectors(t *testing.T) {
	for _, n := range wrongNumbers() {
		for _, r := range []int{0, 7, last} {
			e := at(r, 1, 4)
			l := filled(e)
			if n > 0 {
				tells(t, "more than can be seen", l, put(api.VV{}, r, n), all(top), 9)
				tells(t, "more than can be told", l, api.VV{}, put(api.VV{}, r, n), 9, e)
				tells(t, "elsewhere", l, put(api.VV{}, (r+1)%16, n), all(top), 9, e)
				trims(t, "more than can be", l, put(api.VV{}, r, n), 1)
			} else {
				tells(t, "less than nothing seen", l, put(api.VV{}, r, n), all(top), 9, e)
				tells(t, "less than nothing told", l, api.VV{}, put(all(top), r, n), 9)
				trims(t, "less than nothing", l, put(all(top), r, n), 0)
			}
		}
	}
}

// P20.1: as the plain log does, whatever comes.
func TestAsThePlainOne(t *testing.T) {
	for seed := range dice(150) {
		s := seed
		l, p := New(), plain{}
		some := func() api.VV {
			var v api.VV
			for r := range v {
				v[r] = pick(&s, 0, s.roll(4), s.roll(9), 3, 9)
				if s.roll(60) == 0 {
					v[r] = pick(&s, wrongNumbers()...)
				}
			}
			return v
		}
		for i := range 120 {
			e := at(pick(&s, 0, 1, 2, last), 1+s.roll(9), i)
			if s.roll(12) == 0 {
				e.Dot = pick(&s, wrongDots()...)
			}
			l.Add(e)
			p.add(e)
			if s.roll(15) == 0 {
				// Less than is asked for otherwise, so that the log grows.
				v := some()
				for r := range v {
					v[r] -= s.roll(5)
				}
				trims(t, "as the plain one", l, v, p.trim(v))
			}
			v, told := some(), some()
			for _, most := range []int{s.roll(9) - 1, s.roll(100), math.MaxInt} {
				tells(t, "as the plain one", l, v, told, most, p.forOne(v, told, most)...)
			}
			is(t, "as the plain one", l, p.left()...)
		}
	}
}

// P20.2: what is told may be seen, one behind the other, where v was seen; and all that is to be told comes, a few at a time.
func TestMayBeSeen(t *testing.T) {
	for seed := range dice(120) {
		s := seed
		events, whole := world(&s, 1+s.roll(6), 60)
		l := filled(events...)
		whole = append(whole, api.VV{}, joined(whole[3], whole[40]), joined(whole[20], whole[59]))
		for range 40 {
			v, told := pick(&s, whole...), pick(&s, whole...)
			most := pick(&s, 1, 2, 8, 100)
			for range 61 {
				answer := l.For(v, told, most)
				if len(answer) == 0 {
					break
				}
				for _, e := range answer {
					if !maySee(e, v) || !has(told, e.Dot) {
						t.Fatalf("seed %d: where %v was seen, of %v: %v", seed, v, told, e)
					}
					v[e.Dot.R]++
				}
			}
			if joined(v, told) != v {
				t.Fatalf("seed %d: told %v, but seen are %v", seed, told, v)
			}
		}
	}
}

// P20.2: so it is behind a Trim of what all have seen, which is what a replica needs it for.
func TestMayBeSeenBehindTrim(t *testing.T) {
	for seed := range dice(60) {
		s := seed
		events, whole := world(&s, 2+s.roll(4), 60)
		l := filled(events...)
		low := whole[s.roll(len(whole))]
		trims(t, "low", l, low, len(l.For(api.VV{}, low, math.MaxInt)))
		for range 20 {
			v, told := joined(low, pick(&s, whole...)), pick(&s, whole...)
			for _, e := range l.For(v, told, pick(&s, 1, 8, 100)) {
				if !maySee(e, v) {
					t.Fatalf("seed %d: where %v was seen, of %v: %v", seed, v, told, e)
				}
				v[e.Dot.R]++
			}
		}
	}
}

// P20.3: of a nil Log Add does nothing, all else is none, or 0.
func TestNilLog(t *testing.T) {
	var l *Log
	for _, e := range []api.Event{{}, at(0, 1, 1), at(-1, 0, 0), at(math.MaxInt, math.MinInt, -1)} {
		l.Add(e)
		is(t, "nil", l)
		for _, v := range []api.VV{{}, {1}, all(top), all(math.MinInt), all(math.MaxInt)} {
			for _, most := range []int{math.MinInt, -1, 0, 1, 8, math.MaxInt} {
				tells(t, "nil", l, api.VV{}, v, most)
				tells(t, "nil", l, v, all(top), most)
			}
			trims(t, "nil", l, v, 0)
		}
	}
}

// R3: what is told is lists of their own: what is done to them neither the log nor another answer tells.
func TestListsOfTheirOwn(t *testing.T) {
	events := []api.Event{at(0, 1, 1), at(0, 2, 2), at(1, 1, 3)}
	l := filled(events...)
	ask := []func() []api.Event{l.Events, func() []api.Event { return l.For(api.VV{}, all(top), 9) }, func() []api.Event { return l.For(api.VV{}, all(top), 3) }}
	for _, first := range ask {
		for _, second := range ask {
			a, b := first(), second()
			clear(a)
			a = append(a[:0], make([]api.Event, cap(a))...)
			if !slices.Equal(b, events) {
				t.Fatalf("two answers share memory: %v", b)
			}
			b = append(b, at(9, 9, 9))
			clear(b[:cap(b)])
			is(t, "behind answers that were overwritten", l, events...)
		}
	}
	// An answer stays as it was, whatever the log is told then.
	a, b := l.Events(), l.For(api.VV{}, all(top), 9)
	l.Add(at(2, 1, 4))
	trims(t, "the first ones", l, api.VV{1, 1}, 2)
	l.Add(at(2, 2, 5))
	if !slices.Equal(a, events) || !slices.Equal(b, events) {
		t.Errorf("answers changed behind calls: %v, %v", a, b)
	}
	is(t, "the log", l, at(0, 2, 2), at(2, 1, 4), at(2, 2, 5))
}

// R6: a log hangs on no other one.
func TestLogsApart(t *testing.T) {
	a, b := New(), New()
	a.Add(at(0, 1, 1))
	b.Add(at(1, 1, 2))
	is(t, "a", a, at(0, 1, 1))
	is(t, "b", b, at(1, 1, 2))
	trims(t, "a", a, all(top), 1)
	is(t, "a", a)
	is(t, "b", b, at(1, 1, 2))
}

// Many events, gone through each time: the calls end soon.
func TestManyEvents(t *testing.T) {
	const n = 1 << 16
	l := New()
	for i := range n {
		l.Add(at(i%16, i/16+1, i))
	}
	v := all(n/16 - 1)
	tells(t, "the last round", l, v, all(top), 2, at(0, n/16, n-16), at(1, n/16, n-15))
	trims(t, "all but the last round", l, v, n-16)
	if l.Len() != 16 || l.Events()[15] != at(15, n/16, n-1) {
		t.Errorf("left: %v", l.Events())
	}
}

// What is kept from call to call is the events alone.
func TestKept(t *testing.T) {
	if log := reflect.TypeFor[Log](); log.NumField() != 1 || log.Field(0).Type != reflect.TypeFor[[]api.Event]() {
		t.Errorf("a log has more, or other things, than its events: %v", log)
	}
}
