package hlc

import (
	"math"
	"math/big"
	"testing"

	"polyphony/api"
)

// topWall is the first time of the greatest wall.
const topWall = 65536 * api.MaxWall

// someTimes is times at the edges of walls, at both ends of all times, and some between.
func someTimes() []int {
	return []int{
		0, 1, 2, 65534, 65535, 65536, 65537, 131071, 131072, 327679, 327680, 327681, 400000,
		1<<32 - 1, 1 << 32, 1<<44 - 1, 1 << 44, 1<<59 + 12345,
		topWall - 65536, topWall - 1, topWall, topWall + 1, api.MaxTime - 1, api.MaxTime,
	}
}

// noTimes is numbers that are no time.
func noTimes() []int {
	return []int{
		-1, -2, -65535, -65536, -65537, -api.MaxTime, math.MinInt + 1, math.MinInt,
		api.MaxTime + 1, api.MaxTime + 2, api.MaxTime + 65537, 1 << 61, 1 << 62, math.MaxInt - 1, math.MaxInt,
	}
}

// someWalls is walls that can be shown, both ends among them.
func someWalls() []int {
	return []int{0, 1, 2, 4, 5, 6, 7, 1 << 16, 1<<28 - 1, 1 << 28, 1<<43 + 99, api.MaxWall - 1, api.MaxWall}
}

// noWalls is numbers that no wall shows; 65536 times some of them wraps round to a time.
func noWalls() []int {
	return []int{
		-1, -2, -65536, -api.MaxWall, math.MinInt + 1, math.MinInt,
		api.MaxWall + 1, api.MaxWall + 2, 1 << 47, 1<<48 + 5, 1<<62 + 5, math.MaxInt - 1, math.MaxInt,
	}
}

// clamped is where a clock stands that is made at a number.
func clamped(at int) int {
	switch {
	case at < 0:
		return 0
	case at > api.MaxTime:
		return api.MaxTime
	}
	return at
}

// told is what Tick shall answer, worked out by P4.1's words with numbers that can't wrap round.
func told(last, wall int) (int, api.Errno) {
	if wall < 0 || wall > api.MaxWall {
		return 0, api.ErrArg
	}
	next := new(big.Int).Mul(big.NewInt(65536), big.NewInt(int64(wall)))
	next.Sub(next, big.NewInt(1))
	if l := big.NewInt(int64(last)); l.Cmp(next) > 0 {
		next = l
	}
	next.Add(next, big.NewInt(1))
	if next.Cmp(big.NewInt(api.MaxTime)) > 0 {
		return 0, api.ErrOver
	}
	return int(next.Int64()), api.OK
}

// ticks holds one Tick against what it shall answer, and where the clock stands behind it.
func ticks(t *testing.T, c *Clock, wall, want int, e api.Errno, last int) {
	t.Helper()
	at := c.Last()
	if n, got := c.Tick(wall); n != want || got != e {
		t.Errorf("at %d Tick(%d): %d, %d; not %d, %d", at, wall, n, got, want, e)
	}
	if c.Last() != last {
		t.Errorf("at %d Tick(%d): stands at %d, not at %d", at, wall, c.Last(), last)
	}
}

// P4.1: the document's examples, in one run.
func TestExamples(t *testing.T) {
	c := New(0)
	ticks(t, c, 5, 327680, api.OK, 327680)
	ticks(t, c, 5, 327681, api.OK, 327681)
	ticks(t, c, 4, 327682, api.OK, 327682)
	c.See(400000)
	ticks(t, c, 5, 400001, api.OK, 400001)
}

// P4.1: a new clock stands at its time, or at the end that is nearest.
func TestNew(t *testing.T) {
	for _, s := range []struct{ at, last int }{
		{-1, 0}, {math.MinInt, 0}, {0, 0}, {1, 1}, {327680, 327680}, {api.MaxTime - 1, api.MaxTime - 1},
		{api.MaxTime, api.MaxTime}, {api.MaxTime + 1, api.MaxTime}, {math.MaxInt, api.MaxTime},
	} {
		c := New(s.at)
		if c == nil {
			t.Fatalf("New(%d): nil", s.at)
		}
		if c.Last() != s.last || c.Last() != s.last {
			t.Errorf("New(%d): stands at %d, not at %d", s.at, c.Last(), s.last)
		}
	}
}

// P4.1: each Tick at its edges, and where it leaves the clock.
func TestTick(t *testing.T) {
	for _, s := range []struct {
		last, wall, want int
		e                api.Errno
	}{
		{0, 0, 1, api.OK},
		{1, 0, 2, api.OK},
		{0, 1, 65536, api.OK},
		{65535, 0, 65536, api.OK},
		{65534, 1, 65536, api.OK},
		{65535, 1, 65536, api.OK},
		{65536, 1, 65537, api.OK},
		{65537, 1, 65538, api.OK},
		{131071, 1, 131072, api.OK},
		{131072, 1, 131073, api.OK},
		{131071, 2, 131072, api.OK},
		{327682, 4, 327683, api.OK},
		{327682, 0, 327683, api.OK},
		{327682, 6, 393216, api.OK},
		{0, api.MaxWall - 1, topWall - 65536, api.OK},
		{0, api.MaxWall, topWall, api.OK},
		{topWall - 1, api.MaxWall, topWall, api.OK},
		{topWall, api.MaxWall, topWall + 1, api.OK},
		{topWall, 0, topWall + 1, api.OK},
		{api.MaxTime - 1, api.MaxWall, api.MaxTime, api.OK},
		{api.MaxTime - 1, 0, api.MaxTime, api.OK},
		{api.MaxTime, 0, 0, api.ErrOver},
		{api.MaxTime, 5, 0, api.ErrOver},
		{api.MaxTime, api.MaxWall, 0, api.ErrOver},
	} {
		last := s.want
		if s.e != api.OK {
			last = s.last
		}
		ticks(t, New(s.last), s.wall, s.want, s.e, last)
	}
}

// P4.1: each wall at each time, against the promise's own words.
func TestTickByItsWords(t *testing.T) {
	for _, last := range someTimes() {
		for _, wall := range append(someWalls(), noWalls()...) {
			want, e := told(last, wall)
			behind := want
			if e != api.OK {
				behind = last
			}
			ticks(t, New(last), wall, want, e, behind)
		}
	}
}

// P4.1, R2: a wall that can't be changes nothing, and is named ahead of a time that would be too great.
func TestWrongWalls(t *testing.T) {
	for _, wall := range noWalls() {
		c := New(0)
		ticks(t, c, 5, 327680, api.OK, 327680)
		ticks(t, c, wall, 0, api.ErrArg, 327680)
		ticks(t, c, 5, 327681, api.OK, 327681)
		ticks(t, New(api.MaxTime), wall, 0, api.ErrArg, api.MaxTime)
		ticks(t, New(0), wall, 0, api.ErrArg, 0)
	}
}

// P4.1, R2: at the end of all times each Tick is ErrOver, and nothing is changed by it.
func TestEnd(t *testing.T) {
	c := New(api.MaxTime - 2)
	ticks(t, c, 7, api.MaxTime-1, api.OK, api.MaxTime-1)
	ticks(t, c, 7, api.MaxTime, api.OK, api.MaxTime)
	for _, wall := range someWalls() {
		ticks(t, c, wall, 0, api.ErrOver, api.MaxTime)
	}
	c.See(3)
	ticks(t, c, 0, 0, api.ErrOver, api.MaxTime)
}

// P4.1: a count that runs over 65535 goes on in the wall that comes then, and the clock follows the wall again once it is ahead.
func TestCountRunsOver(t *testing.T) {
	c := New(0)
	for count := range 65536 {
		ticks(t, c, 9, 9*65536+count, api.OK, 9*65536+count)
	}
	for count := range 3 {
		ticks(t, c, 9, 10*65536+count, api.OK, 10*65536+count)
	}
	ticks(t, c, 10, 10*65536+3, api.OK, 10*65536+3)
	ticks(t, c, 11, 11*65536, api.OK, 11*65536)
}

// P4.1: a clock follows a time that is above its own, to MaxTime at most, and no other one.
func TestSee(t *testing.T) {
	for _, s := range []struct{ last, time, want int }{
		{400, 399, 400}, {400, 400, 400}, {400, 401, 401}, {400, 0, 400}, {0, 0, 0}, {0, 1, 1},
		{0, -1, 0}, {400, -1, 400}, {400, math.MinInt, 400}, {0, math.MinInt, 0},
		{400, api.MaxTime - 1, api.MaxTime - 1}, {400, api.MaxTime, api.MaxTime},
		{400, api.MaxTime + 1, api.MaxTime}, {0, math.MaxInt, api.MaxTime},
		{api.MaxTime, 5, api.MaxTime}, {api.MaxTime, -1, api.MaxTime}, {api.MaxTime, math.MaxInt, api.MaxTime},
	} {
		c := New(s.last)
		c.See(s.time)
		if c.Last() != s.want {
			t.Errorf("at %d See(%d): stands at %d, not at %d", s.last, s.time, c.Last(), s.want)
		}
	}
}

// P4.1: of each time with each other one, and with what is no time, the greater one stays, to MaxTime at most.
func TestSeeAll(t *testing.T) {
	for _, last := range someTimes() {
		for _, time := range append(someTimes(), noTimes()...) {
			c := New(last)
			c.See(time)
			if want := max(last, clamped(time)); c.Last() != want {
				t.Errorf("at %d See(%d): stands at %d, not at %d", last, time, c.Last(), want)
			}
		}
	}
}

// P4.1: what was seen counts for the times that come then, and is no time that is given.
func TestTickBehindSee(t *testing.T) {
	c := New(327680)
	c.See(327680)
	ticks(t, c, 5, 327681, api.OK, 327681)
	c.See(327690)
	ticks(t, c, 5, 327691, api.OK, 327691)
	c.See(-1)
	c.See(0)
	ticks(t, c, 5, 327692, api.OK, 327692)
	c.See(6*65536 - 1)
	ticks(t, c, 5, 6*65536, api.OK, 6*65536)
	c.See(8 * 65536)
	ticks(t, c, 7, 8*65536+1, api.OK, 8*65536+1)
	ticks(t, c, 9, 9*65536, api.OK, 9*65536)
	c.See(math.MaxInt)
	ticks(t, c, 10, 0, api.ErrOver, api.MaxTime)
}

// P4.2: over a long run of walls and seen times that go to and fro, each time is above all that was given and seen, and just the wall's where the wall is ahead.
func TestTimesNeverGoBack(t *testing.T) {
	for seed := range uint64(20) {
		c, top := New(0), 0
		for step := range 2000 {
			seed = seed*6364136223846793005 + 1442695040888963407
			n := int((seed >> 33) % 64)
			if step%3 == 2 {
				time := 65536*n + step%65536
				c.See(time)
				top = max(top, time)
				continue
			}
			n += step / 50
			at, e := c.Tick(n)
			if e != api.OK || at <= top {
				t.Fatalf("step %d: Tick(%d) behind %d: %d, %d", step, n, top, at, e)
			}
			if n > top/65536 && at != 65536*n {
				t.Fatalf("step %d: Tick(%d) behind %d: %d is not the wall's", step, n, top, at)
			}
			if n <= top/65536 && at != top+1 {
				t.Fatalf("step %d: Tick(%d) behind %d: %d is not the one behind it", step, n, top, at)
			}
			top = at
		}
	}
}

// P4.2: a time is a wall and a count.
func TestWall(t *testing.T) {
	for _, s := range []struct{ time, wall, count int }{
		{0, 0, 0}, {1, 0, 1}, {65535, 0, 65535}, {65536, 1, 0}, {65537, 1, 1}, {327680, 5, 0}, {327682, 5, 2},
		{400001, 6, 6785}, {topWall - 1, api.MaxWall - 1, 65535}, {topWall, api.MaxWall, 0},
		{api.MaxTime - 1, api.MaxWall, 65534}, {api.MaxTime, api.MaxWall, 65535},
	} {
		if w, n := Wall(s.time); w != s.wall || n != s.count {
			t.Errorf("Wall(%d): %d, %d; not %d, %d", s.time, w, n, s.wall, s.count)
		}
	}
	for _, time := range someTimes() {
		w, n := Wall(time)
		if w < 0 || w > api.MaxWall || n < 0 || n > 65535 || 65536*w+n != time {
			t.Errorf("Wall(%d): %d, %d", time, w, n)
		}
	}
}

// P4.2: what is no time has neither wall nor count.
func TestWallOfNoTime(t *testing.T) {
	for _, time := range noTimes() {
		if w, n := Wall(time); w != 0 || n != 0 {
			t.Errorf("Wall(%d): %d, %d", time, w, n)
		}
	}
}

// P4.2: of a time that was given while a wall was shown, Wall is that wall, and how many were ahead of it then.
func TestWallOfTick(t *testing.T) {
	for _, wall := range someWalls()[1:] {
		for count := range 3 {
			c := New(65536*wall - 1)
			c.See(65536*wall + count - 1)
			at, _ := c.Tick(wall)
			if w, n := Wall(at); w != wall || n != count {
				t.Errorf("the time %d of the wall %d: %d, %d", count, wall, w, n)
			}
		}
	}
}

// P4.3, R1: of no clock at all there is nothing, whatever it is told.
func TestNilClock(t *testing.T) {
	var c *Clock
	for _, n := range append(append(someTimes(), noTimes()...), append(someWalls(), noWalls()...)...) {
		c.See(n)
		if at, e := c.Tick(n); at != 0 || e != api.ErrArg {
			t.Errorf("nil Tick(%d): %d, %d", n, at, e)
		}
		if c.Last() != 0 {
			t.Errorf("nil Last: %d", c.Last())
		}
	}
}

// P4.3: the zero clock is one that was made at 0.
func TestZeroClock(t *testing.T) {
	var c Clock
	if c.Last() != 0 {
		t.Errorf("stands at %d", c.Last())
	}
	ticks(t, &c, -1, 0, api.ErrArg, 0)
	ticks(t, &c, 0, 1, api.OK, 1)
	ticks(t, &c, 5, 327680, api.OK, 327680)
	c.See(400000)
	ticks(t, &c, 5, 400001, api.OK, 400001)
	ticks(t, new(Clock), 0, 1, api.OK, 1)
	ticks(t, &Clock{}, 5, 327680, api.OK, 327680)
}

// R6: what one clock is told is nothing to another one; all clocks that are told the same answer the same.
func TestClocksApart(t *testing.T) {
	a, b := New(7), New(7)
	ticks(t, a, 5, 327680, api.OK, 327680)
	a.See(400000)
	if b.Last() != 7 {
		t.Errorf("the other one stands at %d", b.Last())
	}
	ticks(t, b, 5, 327680, api.OK, 327680)
	b.See(400000)
	ticks(t, a, 5, 400001, api.OK, 400001)
	ticks(t, b, 5, 400001, api.OK, 400001)
	ticks(t, New(7), 0, 8, api.OK, 8)
}
