package tally

import (
	"math"
	"math/big"
	"slices"
	"testing"

	"polyphony/api"
)

// The limits as the document tells them, held apart from what package api says.
const (
	mostNum   = 1 << 40
	mostTally = 1 << 50
	replicas  = 16
)

// dice is numbers that look like no pattern, the same ones each time.
type dice uint32

func (s *dice) roll(n int) int {
	*s = *s*1664525 + 1013904223
	return int(*s>>8) % n
}

// mixed is a list in another order.
func (s *dice) mixed(l []api.Event) []api.Event {
	l = slices.Clone(l)
	for i := range l {
		j := i + s.roll(len(l)-i)
		l[i], l[j] = l[j], l[i]
	}
	return l
}

// noKinds is numbers that are no kind, some of them alike Incr in their lowest bits.
func noKinds() []int {
	return []int{0, 12, 13, -1, -2, -11, 1<<8 + 2, 1<<16 + 2, 1<<32 + 2, math.MinInt, math.MinInt + 2, math.MaxInt}
}

// noReplicas is numbers that are no replica's, some of them alike one's in their lowest bits.
func noReplicas() []int {
	return []int{-1, -2, -16, 16, 17, 32, 1 << 8, 1 << 16, 1<<32 + 3, math.MinInt, math.MinInt + 1, math.MaxInt}
}

// held is numbers, and what each of them counts as.
func held() [][2]int {
	return [][2]int{
		{0, 0}, {1, 1}, {-1, -1}, {2, 2}, {-2, -2}, {300, 300}, {-300, -300},
		{mostNum - 1, mostNum - 1}, {mostNum, mostNum}, {mostNum + 1, mostNum}, {mostNum + 2, mostNum},
		{-mostNum + 1, -mostNum + 1}, {-mostNum, -mostNum}, {-mostNum - 1, -mostNum}, {-mostNum - 2, -mostNum},
		{2 * mostNum, mostNum}, {-2 * mostNum, -mostNum}, {1 << 41, mostNum}, {mostTally, mostNum}, {-mostTally, -mostNum},
		{1<<32 + 7, 1<<32 + 7}, {-1<<32 - 7, -1<<32 - 7}, {1<<62 + 5, mostNum}, {-1<<62 - 5, -mostNum},
		{math.MaxInt, mostNum}, {math.MaxInt - 1, mostNum}, {math.MinInt, -mostNum}, {math.MinInt + 1, -mostNum},
	}
}

// junk is an event that may be one that can't be.
func (s *dice) junk() api.Event {
	e := incr(s.roll(replicas), s.roll(9)-4)
	e.Dot.N, e.Time, e.Deps = 1+s.roll(3), s.roll(3), api.VV{s.roll(4), s.roll(4)}
	e.Op.Key = []string{"k", "j", ""}[s.roll(3)]
	if s.roll(2) == 0 {
		e.Op.Num = held()[s.roll(len(held()))][0]
	}
	if s.roll(3) == 0 {
		e.Op.Kind = 1 + s.roll(11)
	}
	switch s.roll(8) {
	case 0:
		e.Op.Kind = noKinds()[s.roll(len(noKinds()))]
	case 1:
		e.Dot.R = noReplicas()[s.roll(len(noReplicas()))]
	case 2:
		e.Dot.N = []int{0, -1, math.MinInt, 1<<20 + 1, math.MaxInt}[s.roll(5)]
	case 3:
		e.Deps, e.Time = api.VV{math.MinInt, math.MaxInt, -1}, []int{math.MinInt, -1, math.MaxInt}[s.roll(3)]
	}
	return e
}

// junks is a list of such events, some of which stand there twice.
func (s *dice) junks(most int) []api.Event {
	var l []api.Event
	for range s.roll(most + 1) {
		l = append(l, s.junk())
		if s.roll(5) == 0 {
			l = append(l, l[s.roll(len(l))])
		}
	}
	return l
}

// plainAdds is what an event adds by the document's words.
func plainAdds(e api.Event) *big.Int {
	switch {
	case e.Op.Kind != 2:
		return big.NewInt(0)
	case e.Op.Num > mostNum:
		return big.NewInt(mostNum)
	case e.Op.Num < -mostNum:
		return big.NewInt(-mostNum)
	}
	return big.NewInt(int64(e.Op.Num))
}

// plainSum is what those events add, all together, of which a function tells that they count.
func plainSum(l []api.Event, counts func(e api.Event) bool) int {
	sum := big.NewInt(0)
	for _, e := range l {
		if counts(e) {
			sum.Add(sum, plainAdds(e))
		}
	}
	if !sum.IsInt64() {
		panic("a test's list with a sum that is no int")
	}
	return int(sum.Int64())
}

// plainBy is By by the document's words: for each replica all events are gone through.
func plainBy(l []api.Event) [replicas]int {
	var by [replicas]int
	for r := range by {
		by[r] = plainSum(l, func(e api.Event) bool { return e.Dot.R == r })
	}
	return by
}

// plainCheck is Check by the document's words, with numbers that have no end.
func plainCheck(l []api.Event, n int) api.Errno {
	sum := big.NewInt(int64(plainSum(l, isAny)))
	sum.Add(sum, big.NewInt(int64(n)))
	if n < -mostNum || n > mostNum || sum.CmpAbs(big.NewInt(mostTally)) > 0 {
		return 6
	}
	return 0
}

// isAny tells of each event that it counts.
func isAny(api.Event) bool { return true }

// isSum holds Sum against what it shall tell.
func isSum(t *testing.T, what string, l []api.Event, want int) {
	t.Helper()
	if got := Sum(l); got != want {
		t.Errorf("%s: Sum of %v: %d, not %d", what, few(l), got, want)
	}
}

// isBy holds By against what it shall tell.
func isBy(t *testing.T, what string, l []api.Event, want [replicas]int) {
	t.Helper()
	if got := By(l); got != want {
		t.Errorf("%s: By of %v: %v, not %v", what, few(l), got, want)
	}
}

// isCheck holds Check against what it shall answer.
func isCheck(t *testing.T, what string, l []api.Event, n int, want api.Errno) {
	t.Helper()
	if got := Check(l, n); got != want {
		t.Errorf("%s: Check with %d of %v: %d, not %d", what, n, few(l), got, want)
	}
}

// few is a list's first events: a long one isn't told whole with what is wrong.
func few(l []api.Event) []api.Event { return l[:min(len(l), 9)] }

// asTold holds all that is told of a list against the document's words.
func asTold(t *testing.T, what string, l []api.Event) {
	t.Helper()
	isSum(t, what, l, plainSum(l, isAny))
	isBy(t, what, l, plainBy(l))
	for _, n := range []int{0, 1, -1, 5, mostNum, -mostNum, mostNum + 1, -mostNum - 1, math.MaxInt, math.MinInt} {
		isCheck(t, what, l, n, plainCheck(l, n))
	}
}

// incr is an Incr event of a replica.
func incr(r, n int) api.Event { return made(api.Incr, r, n) }

// made is an event of a kind by a replica.
func made(kind, r, n int) api.Event {
	return api.Event{Dot: api.Dot{R: r, N: 1}, Time: 5, Op: api.Op{Kind: kind, Key: "k", Num: n}}
}

// upTo is Incr events of a replica, with numbers that can be, whose sum is a number.
func upTo(r, sum int) []api.Event {
	var l []api.Event
	for sum != 0 {
		n := max(-mostNum, min(sum, mostNum))
		l = append(l, incr(r, n))
		sum -= n
	}
	return l
}

// only is what is told of one replica, with 0 of all others.
func only(r, n int) [replicas]int {
	var by [replicas]int
	by[r] = n
	return by
}

// orders calls a function with each order of events.
func orders(l []api.Event, do func(l []api.Event)) {
	l = slices.Clone(l)
	var from func(n int)
	from = func(n int) {
		if n == len(l) {
			do(slices.Clone(l))
			return
		}
		for i := n; i < len(l); i++ {
			l[n], l[i] = l[i], l[n]
			from(n + 1)
			l[n], l[i] = l[i], l[n]
		}
	}
	from(0)
}

// P12.1: the document's example.
func TestExample(t *testing.T) {
	orders([]api.Event{incr(0, 5), incr(1, -2)}, func(l []api.Event) {
		isSum(t, "the example", l, 3)
		isBy(t, "the example", l, [replicas]int{5, -2})
		isCheck(t, "the example", l, 4, api.OK)
	})
	orders([]api.Event{incr(7, 5), incr(7, -2)}, func(l []api.Event) {
		isSum(t, "of one replica", l, 3)
		isBy(t, "of one replica", l, [replicas]int{7: 3})
	})
}

// P12.1, R1, R4: no events add nothing, be the list nil or empty.
func TestNoEvents(t *testing.T) {
	for _, l := range [][]api.Event{nil, {}, make([]api.Event, 0, 9), []api.Event{incr(1, 5)}[:0]} {
		isSum(t, "none", l, 0)
		isBy(t, "none", l, [replicas]int{})
		for _, n := range []int{0, 1, -1, mostNum, -mostNum} {
			isCheck(t, "none", l, n, api.OK)
		}
		for _, n := range []int{mostNum + 1, -mostNum - 1, math.MaxInt, math.MinInt} {
			isCheck(t, "none", l, n, api.ErrOver)
		}
	}
}

// P12.1: one event of each replica, the first and the last one among them, with numbers up to their edges, and
// beyond: those count as the edge.
func TestOneEvent(t *testing.T) {
	for r := range replicas {
		for _, c := range held() {
			l := []api.Event{incr(r, c[0])}
			isSum(t, "one", l, c[1])
			isBy(t, "one", l, only(r, c[1]))
			isCheck(t, "one", l, 0, api.OK)
		}
	}
}

// P12.1: each event is held by itself, not their sum.
func TestEachIsHeld(t *testing.T) {
	for _, c := range []struct {
		what      string
		nums      []int
		all, half int
	}{
		{"both above", []int{mostNum + 1, mostNum + 9}, 2 * mostNum, mostNum},
		{"both below", []int{-mostNum - 1, -mostNum - 9}, -2 * mostNum, -mostNum},
		{"both at the edge", []int{mostNum, mostNum}, 2 * mostNum, mostNum},
		{"above and back", []int{mostNum + 5, -5}, mostNum - 5, mostNum},
		{"below and back", []int{-mostNum - 5, 5}, -mostNum + 5, -mostNum},
		{"above and below", []int{math.MaxInt, math.MinInt}, 0, mostNum},
		{"the greatest ones", []int{math.MaxInt, math.MaxInt}, 2 * mostNum, mostNum},
		{"the least ones", []int{math.MinInt, math.MinInt}, -2 * mostNum, -mostNum},
	} {
		one := []api.Event{incr(4, c.nums[0]), incr(4, c.nums[1])}
		isSum(t, c.what+", of one replica", one, c.all)
		isBy(t, c.what+", of one replica", one, [replicas]int{4: c.all})
		two := []api.Event{incr(4, c.nums[0]), incr(9, c.nums[1])}
		isSum(t, c.what+", of two", two, c.all)
		isBy(t, c.what+", of two", two, [replicas]int{4: c.half, 9: c.all - c.half})
	}
}

// P12.1: several events, of one replica and of several.
func TestSeveralEvents(t *testing.T) {
	var one, each []api.Event
	var by [replicas]int
	sum := 0
	for r := range replicas {
		n := 3*r*r - 50*r + 7
		by[r], sum = 2*n+1, sum+n
		one = append(one, incr(15, n))
		each = append(each, incr(r, n), incr(r, n+1))
	}
	isSum(t, "of one replica", one, sum)
	isBy(t, "of one replica", one, [replicas]int{15: sum})
	isSum(t, "of each replica", each, 2*sum+replicas)
	isBy(t, "of each replica", each, by)
	isSum(t, "of the first and the last one", []api.Event{incr(15, 7), incr(0, 1), incr(15, 8)}, 16)
	isBy(t, "of the first and the last one", []api.Event{incr(15, 7), incr(0, 1), incr(15, 8)}, [replicas]int{0: 1, 15: 15})
}

// P12.1: of all kinds there are, and of those there aren't, Incr alone adds.
func TestOtherKinds(t *testing.T) {
	var others []api.Event
	for kind := 1; kind <= 11; kind++ {
		if kind != 2 {
			others = append(others, made(kind, kind, 9), made(kind, 0, -mostNum), made(kind, 15, math.MaxInt))
		}
	}
	for _, kind := range noKinds() {
		others = append(others, made(kind, 3, 9), made(kind, 3, math.MinInt))
	}
	for _, e := range others {
		isSum(t, "one of another kind", []api.Event{e}, 0)
		isBy(t, "one of another kind", []api.Event{e}, [replicas]int{})
		isCheck(t, "one of another kind", []api.Event{e}, mostNum, api.OK)
	}
	isSum(t, "others", others, 0)
	isBy(t, "others", others, [replicas]int{})
	for at := range len(others) + 1 {
		l := slices.Insert(slices.Clone(others), at, incr(3, 5), incr(2, -2))
		l = append(l, incr(3, 1))
		isSum(t, "among others", l, 4)
		isBy(t, "among others", l, [replicas]int{2: -2, 3: 6})
		isCheck(t, "among others", l, mostNum, api.OK)
	}
	full := slices.Concat(upTo(3, mostTally), others)
	isCheck(t, "at the edge among others", full, 0, api.OK)
	isCheck(t, "at the edge among others", full, 1, api.ErrOver)
}

// P12.1: nothing but the Kind, the Num and the dot's R counts: not the key, the time, nor what was seen.
func TestNothingElseCounts(t *testing.T) {
	plain := incr(6, 5)
	change := func(do func(e *api.Event)) api.Event {
		e := plain
		do(&e)
		return e
	}
	l := []api.Event{
		change(func(e *api.Event) { e.Op.Key = "j" }),
		change(func(e *api.Event) { e.Op.Key = "" }),
		change(func(e *api.Event) { e.Op.Field, e.Op.Value = "7", "9" }),
		change(func(e *api.Event) { e.Op.Ref = api.Dot{R: 6, N: 1} }),
		change(func(e *api.Event) { e.Time = 0 }),
		change(func(e *api.Event) { e.Time = -1 }),
		change(func(e *api.Event) { e.Time = math.MinInt }),
		change(func(e *api.Event) { e.Time = math.MaxInt }),
		change(func(e *api.Event) { e.Dot.N = 0 }),
		change(func(e *api.Event) { e.Dot.N = -1 }),
		change(func(e *api.Event) { e.Dot.N = math.MinInt }),
		change(func(e *api.Event) { e.Dot.N = 1<<20 + 1 }),
		change(func(e *api.Event) { e.Deps = api.VV{6: 9} }),
		change(func(e *api.Event) { e.Deps = api.VV{-1, math.MinInt, math.MaxInt} }),
	}
	for _, e := range l {
		isSum(t, "changed", []api.Event{e}, 5)
		isBy(t, "changed", []api.Event{e}, [replicas]int{6: 5})
		isSum(t, "changed, beside the plain one", []api.Event{plain, e}, 10)
		isBy(t, "changed, beside the plain one", []api.Event{plain, e}, [replicas]int{6: 10})
	}
	isSum(t, "all of them", l, 5*len(l))
	isBy(t, "all of them", l, [replicas]int{6: 5 * len(l)})
}

// P12.1: an event that stands there twice adds twice; so do two of one dot.
func TestTwice(t *testing.T) {
	a, b := incr(1, 5), incr(2, -3)
	isSum(t, "twice", []api.Event{a, a}, 10)
	isBy(t, "twice", []api.Event{a, a}, [replicas]int{1: 10})
	orders([]api.Event{a, b, a, b, b}, func(l []api.Event) {
		isSum(t, "often", l, 1)
		isBy(t, "often", l, [replicas]int{1: 10, 2: -9})
	})
	full := slices.Concat(upTo(1, mostTally-5), []api.Event{a})
	isCheck(t, "once", full, 0, api.OK)
	isCheck(t, "twice", append(full, a), 0, api.ErrOver)
}

// P12.1, R1: what events of no replica add is in Sum, and in no replica's place.
func TestNoReplica(t *testing.T) {
	for _, r := range noReplicas() {
		isSum(t, "of no replica", []api.Event{incr(r, 7)}, 7)
		isBy(t, "of no replica", []api.Event{incr(r, 7)}, [replicas]int{})
		orders([]api.Event{incr(0, 1), incr(r, 7), incr(15, 2)}, func(l []api.Event) {
			isSum(t, "among replicas'", l, 10)
			isBy(t, "among replicas'", l, [replicas]int{0: 1, 15: 2})
		})
		full := append(upTo(3, mostTally-7), incr(r, 7))
		isCheck(t, "of no replica", full, 0, api.OK)
		isCheck(t, "of no replica", full, 1, api.ErrOver)
	}
}

// P12.1, R1: the zero event adds nothing.
func TestZeroEvent(t *testing.T) {
	isSum(t, "alone", []api.Event{{}}, 0)
	isBy(t, "alone", []api.Event{{}}, [replicas]int{})
	isCheck(t, "alone", []api.Event{{}}, 1, api.OK)
	isSum(t, "among others", []api.Event{{}, incr(0, 5), {}, incr(1, -2)}, 3)
	isBy(t, "among others", []api.Event{{}, incr(0, 5), {}, incr(1, -2)}, [replicas]int{5, -2})
	zero := api.Event{Op: api.Op{Kind: api.Incr, Num: 4}}
	isSum(t, "all else zero", []api.Event{zero}, 4)
	isBy(t, "all else zero", []api.Event{zero}, [replicas]int{4})
}

// P12.1: sums are told whole at a tally's bounds and beyond: Sum and By hold none back.
func TestSumsAtTheEdge(t *testing.T) {
	for _, sum := range []int{mostTally - 1, mostTally, mostTally + 1, mostTally + mostNum, 3*mostTally + 7} {
		for _, n := range []int{sum, -sum} {
			isSum(t, "of one replica", upTo(15, n), n)
			isBy(t, "of one replica", upTo(15, n), [replicas]int{15: n})
			two := slices.Concat(upTo(0, n), upTo(15, n))
			isSum(t, "of two", two, 2*n)
			isBy(t, "of two", two, [replicas]int{0: n, 15: n})
			back := slices.Concat(upTo(0, n), upTo(15, -n), upTo(3, 1))
			isSum(t, "beyond, and back", back, 1)
			isBy(t, "beyond, and back", back, [replicas]int{0: n, 3: 1, 15: -n})
		}
	}
}

// P12.1: a number is refused by itself beyond its bounds, whatever the sum is.
func TestCheckOfANumber(t *testing.T) {
	for _, sum := range []int{0, 1, -1, mostNum, -mostNum, 4*mostNum + 1, mostTally - mostNum, -mostTally + mostNum} {
		l := upTo(2, sum)
		for _, n := range []int{0, 1, -1, mostNum - 1, mostNum, -mostNum + 1, -mostNum} {
			isCheck(t, "within", l, n, api.OK)
		}
	}
	for _, sum := range []int{0, mostNum + 1, -mostNum - 1, mostTally, -mostTally, mostTally + mostNum + 1, -mostTally - mostNum - 1} {
		l := upTo(2, sum)
		for _, n := range []int{mostNum + 1, mostNum + 2, 2 * mostNum, mostTally, 2 * mostTally, 1 << 62, math.MaxInt - 1, math.MaxInt} {
			isCheck(t, "above", l, n, api.ErrOver)
			isCheck(t, "below", l, -n, api.ErrOver)
		}
		isCheck(t, "the least int", l, math.MinInt, api.ErrOver)
	}
}

// P12.1: a number is refused where it brings the sum beyond a tally's bounds, or leaves it there.
func TestCheckOfASum(t *testing.T) {
	for _, c := range []struct {
		what   string
		sum, n int
		want   api.Errno
	}{
		{"just there", mostTally, 0, api.OK},
		{"just there, one further", mostTally, 1, api.ErrOver},
		{"just there, one back", mostTally, -1, api.OK},
		{"one ahead, to it", mostTally - 1, 1, api.OK},
		{"one ahead, beyond", mostTally - 1, 2, api.ErrOver},
		{"the greatest number, to it", mostTally - mostNum, mostNum, api.OK},
		{"the greatest number, beyond", mostTally - mostNum + 1, mostNum, api.ErrOver},
		{"the greatest number, from there", mostTally, mostNum, api.ErrOver},
		{"the greatest number, back from there", mostTally, -mostNum, api.OK},
		{"beyond, left there", mostTally + 1, 0, api.ErrOver},
		{"beyond, brought back", mostTally + 1, -1, api.OK},
		{"beyond, brought back by more", mostTally + 5, -9, api.OK},
		{"beyond, brought near", mostTally + 5, -4, api.ErrOver},
		{"beyond, brought back just", mostTally + 5, -5, api.OK},
		{"beyond, brought further", mostTally + 5, 1, api.ErrOver},
		{"far beyond, brought back by the most", mostTally + mostNum, -mostNum, api.OK},
		{"too far to be brought back", mostTally + mostNum + 1, -mostNum, api.ErrOver},
		{"brought back by what may not be", mostTally + mostNum + 1, -mostNum - 1, api.ErrOver},
		{"far beyond", 3 * mostTally, -mostNum, api.ErrOver},
		{"far beyond, left there", 3 * mostTally, 0, api.ErrOver},
	} {
		isCheck(t, c.what, upTo(2, c.sum), c.n, c.want)
		isCheck(t, c.what+", below 0", upTo(2, -c.sum), -c.n, c.want)
		shared := slices.Concat(upTo(0, c.sum/2), upTo(15, c.sum-c.sum/2))
		isCheck(t, c.what+", of two replicas", shared, c.n, c.want)
	}
}

// P12.1: it is the sum of all that Check holds, not what one replica adds.
func TestCheckHoldsTheSum(t *testing.T) {
	l := slices.Concat(upTo(1, mostTally+9), upTo(2, -mostTally-9))
	isCheck(t, "both beyond, together 0", l, mostNum, api.OK)
	isCheck(t, "both beyond, together 0", l, -mostNum, api.OK)
	l = slices.Concat(upTo(1, mostTally/2), upTo(2, mostTally/2))
	isCheck(t, "both within", l, 1, api.ErrOver)
	isCheck(t, "both within", append(l, incr(3, 1)), 0, api.ErrOver)
}

// P12.1, P12.2, R1: all of it by the document's words, of lists of events many of which can't be.
func TestManyLists(t *testing.T) {
	for seed := range 5000 {
		s := dice(seed)
		asTold(t, "some", s.junks(9))
		if t.Failed() {
			t.Fatalf("at seed %d", seed)
		}
	}
}

// P12.1: what replicas add makes the sum, if all events are replicas'; else that of those that are.
func TestByMakesSum(t *testing.T) {
	for seed := range 2000 {
		s := dice(seed)
		l := s.junks(30)
		own := slices.DeleteFunc(slices.Clone(l), func(e api.Event) bool { return e.Dot.R < 0 || e.Dot.R > 15 })
		sum := 0
		for _, n := range By(own) {
			sum += n
		}
		isSum(t, "By's numbers", own, sum)
		isBy(t, "with others'", l, By(own))
		if t.Failed() {
			t.Fatalf("at seed %d", seed)
		}
	}
}

// sameTold holds that two lists tell the same.
func sameTold(t *testing.T, what string, l, m []api.Event) {
	t.Helper()
	isSum(t, what, m, Sum(l))
	isBy(t, what, m, By(l))
	for _, n := range []int{0, 1, -1, mostNum, -mostNum, mostNum + 1} {
		isCheck(t, what, m, n, Check(l, n))
	}
}

// P12.2: each order of few events tells the same.
func TestEachOrder(t *testing.T) {
	for seed := range 200 {
		s := dice(seed)
		l := s.junks(9)
		l = l[:min(len(l), 6)]
		orders(l, func(m []api.Event) { sameTold(t, "another order", l, m) })
		if t.Failed() {
			t.Fatalf("at seed %d", seed)
		}
	}
}

// P12.2: some orders of many events tell the same: the sum goes beyond a tally's bounds, and comes back, here
// earlier and there later, or not at all on the way.
func TestSomeOrders(t *testing.T) {
	for seed := range 30 {
		s := dice(seed)
		up, down := upTo(s.roll(replicas), 2*mostTally+s.roll(9)), upTo(s.roll(replicas), -mostTally-s.roll(9))
		l := slices.Concat(up, down, s.junks(9))
		asTold(t, "many", l)
		sameTold(t, "the other one first", l, slices.Concat(l[len(up):], l[:len(up)]))
		for range 5 {
			sameTold(t, "another order", l, s.mixed(l))
		}
		if t.Failed() {
			t.Fatalf("at seed %d", seed)
		}
	}
}

// behind holds that of two lists, one behind the other, the sum is the sum of theirs, as is each replica's; and that
// Check goes by that sum.
func behind(t *testing.T, l, m []api.Event) {
	t.Helper()
	all := slices.Concat(l, m)
	isSum(t, "one behind the other", all, Sum(l)+Sum(m))
	by, more := By(l), By(m)
	for r := range by {
		by[r] += more[r]
	}
	isBy(t, "one behind the other", all, by)
	for _, n := range []int{0, 1, -1, mostNum, -mostNum} {
		isCheck(t, "one behind the other", all, n, plainCheck(all, n))
	}
}

// P12.2: two lists, one behind the other: either of them empty or not, and with sums within a tally's bounds, at
// them, and beyond.
func TestOneBehindTheOther(t *testing.T) {
	a, b, c, d := incr(0, 5), incr(15, -2), incr(3, math.MaxInt), made(api.ZAdd, 1, 9)
	some := [][]api.Event{
		nil, {}, {a}, {b}, {c}, {d}, {{}}, {a, b}, {b, a}, {a, a}, {c, c}, {a, b, c, d}, {incr(-1, 7)}, {incr(16, 7), b},
		upTo(1, mostTally), upTo(2, -mostTally), upTo(1, mostTally+1), upTo(1, -mostTally-1), upTo(4, mostTally-1),
	}
	for _, l := range some {
		for _, m := range some {
			behind(t, l, m)
		}
	}
	isSum(t, "as numbers", slices.Concat([]api.Event{a}, []api.Event{b}), 3)
	for seed := range 3000 {
		s := dice(seed)
		l, m := s.junks(5), s.junks(5)
		behind(t, l, m)
		behind(t, m, l)
		if t.Failed() {
			t.Fatalf("at seed %d", seed)
		}
	}
}

// R3: what goes in stays as it is, and what lies behind a list's length is neither read nor written.
func TestWhatGoesInStays(t *testing.T) {
	for seed := range 300 {
		s := dice(seed)
		room := append(s.junks(9), incr(1, 1000), incr(2, mostNum))
		l := room[:s.roll(len(room)-1)]
		was := slices.Clone(room)
		asTold(t, "with events behind", l)
		if !slices.Equal(room, was) {
			t.Fatalf("%v became %v", was, room)
		}
	}
}

// R3, R6: what was told stays when the list is changed, and a call hangs on no call ahead of it.
func TestNothingIsKept(t *testing.T) {
	l := []api.Event{incr(1, 5), incr(2, -2)}
	by := By(l)
	l[1] = incr(2, 9)
	if by != [replicas]int{1: 5, 2: -2} {
		t.Errorf("%v was told", by)
	}
	by[1] = 77
	for range 9 {
		isSum(t, "changed", l, 14)
		isBy(t, "changed", l, [replicas]int{1: 5, 2: 9})
		isCheck(t, "a refused one", l, mostNum+1, api.ErrOver)
		isCheck(t, "again", l, mostNum, api.OK)
		isSum(t, "none", nil, 0)
		isBy(t, "none", nil, [replicas]int{})
	}
}

// R1: a long list is told, too.
func TestLongList(t *testing.T) {
	const n = 200000
	l := make([]api.Event, n)
	var by [replicas]int
	sum := 0
	for i := range l {
		l[i] = made(1+i%3, i%17, (i*7919)%n-n/3)
		if i%3 == 1 {
			sum += l[i].Op.Num
			if i%17 < replicas {
				by[i%17] += l[i].Op.Num
			}
		}
	}
	isSum(t, "long", l, sum)
	isBy(t, "long", l, by)
	isCheck(t, "long", l, mostNum, api.OK)
}
