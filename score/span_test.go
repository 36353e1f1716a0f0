package score

import (
	"math"
	"math/big"
	"testing"
)

// isSpan holds Span against what it shall tell.
func isSpan(t *testing.T, many, from, to, wantFrom, wantTo int) {
	t.Helper()
	if a, b := Span(many, from, to); a != wantFrom || b != wantTo {
		t.Errorf("Span(%d, %d, %d): %d, %d, not %d, %d", many, from, to, a, b, wantFrom, wantTo)
	}
}

// plainSpan is Span by going through a list's places, each of them held against both ends: those that count from
// behind are held against the place's own number from behind.
func plainSpan(many, from, to int) (int, int) {
	first, behind := 0, 0
	for at := range max(many, 0) {
		back := at - many
		isFrom := from >= 0 && at >= from || from < 0 && back >= from
		isTo := to >= 0 && at <= to || to < 0 && back <= to
		if !isFrom || !isTo {
			continue
		}
		if behind == 0 {
			first = at
		}
		behind = at + 1
	}
	return first, behind
}

// bigSpan is Span by the document's words, with numbers that have no bounds.
func bigSpan(many, from, to int) (int, int) {
	n, a, b := big.NewInt(int64(many)), big.NewInt(int64(from)), big.NewInt(int64(to))
	zero, one := big.NewInt(0), big.NewInt(1)
	if n.Sign() < 0 {
		n = zero
	}
	if a.Sign() < 0 {
		a = new(big.Int).Add(a, n)
	}
	if b.Sign() < 0 {
		b = new(big.Int).Add(b, n)
	}
	if a.Sign() < 0 {
		a = zero
	}
	if last := new(big.Int).Sub(n, one); b.Cmp(last) > 0 {
		b = last
	}
	if a.Cmp(b) > 0 {
		return 0, 0
	}
	return int(a.Int64()), int(new(big.Int).Add(b, one).Int64())
}

// P15.2: the document's example.
func TestSpanExample(t *testing.T) {
	isSpan(t, 5, -2, 9, 3, 5)
}

// P15.2: places of a list of several: at both ends, one beyond each of them, and from behind.
func TestSpanOfSeveral(t *testing.T) {
	for _, c := range []struct{ from, to, a, b int }{
		{0, 4, 0, 5}, {0, 0, 0, 1}, {4, 4, 4, 5}, {1, 3, 1, 4}, {2, 2, 2, 3},
		// Beyond the end, where only what is held at the last one is left.
		{0, 5, 0, 5}, {4, 5, 4, 5}, {0, 6, 0, 5}, {2, 1000, 2, 5}, {5, 5, 0, 0}, {5, 4, 0, 0}, {5, 9, 0, 0}, {6, 9, 0, 0}, {1000, 1000, 0, 0},
		// From behind, as far as the first one.
		{0, -1, 0, 5}, {-1, -1, 4, 5}, {-5, -1, 0, 5}, {-5, -5, 0, 1}, {-3, -2, 2, 4}, {-4, 4, 1, 5}, {1, -2, 1, 4}, {-5, 0, 0, 1}, {4, -1, 4, 5},
		// From behind, and beyond the first one: from is held there, to isn't.
		{-6, -1, 0, 5}, {-6, 0, 0, 1}, {-9, 2, 0, 3}, {-1000, 4, 0, 5}, {-6, -5, 0, 1}, {0, -6, 0, 0}, {-6, -6, 0, 0}, {-9, -6, 0, 0}, {-5, -6, 0, 0}, {-9, -1000, 0, 0},
		// From above to.
		{3, 2, 0, 0}, {4, 0, 0, 0}, {1, 0, 0, 0}, {-1, -2, 0, 0}, {-1, 0, 0, 0}, {-1, 3, 0, 0}, {3, -3, 0, 0}, {4, -2, 0, 0},
	} {
		isSpan(t, 5, c.from, c.to, c.a, c.b)
	}
}

// P15.2: a list of one has the places 0 and -1.
func TestSpanOfOne(t *testing.T) {
	for _, c := range []struct{ from, to, a, b int }{
		{0, 0, 0, 1}, {-1, -1, 0, 1}, {0, -1, 0, 1}, {-1, 0, 0, 1}, {-2, 0, 0, 1}, {-2, -1, 0, 1}, {0, 1, 0, 1}, {-9, 9, 0, 1},
		{1, 1, 0, 0}, {1, 0, 0, 0}, {1, -1, 0, 0}, {0, -2, 0, 0}, {-2, -2, 0, 0}, {-1, -2, 0, 0},
	} {
		isSpan(t, 1, c.from, c.to, c.a, c.b)
	}
}

// P15.2: a list of none, or of fewer, has no places.
func TestSpanOfNone(t *testing.T) {
	places := []int{math.MinInt, math.MinInt + 1, -9, -2, -1, 0, 1, 2, 9, math.MaxInt - 1, math.MaxInt}
	for _, many := range []int{0, -1, -2, -5, -1 << 32, math.MinInt + 1, math.MinInt} {
		for _, from := range places {
			for _, to := range places {
				isSpan(t, many, from, to, 0, 0)
			}
		}
	}
}

// P15.2, R1: the least and the greatest number that an int can hold.
func TestSpanOfFarNumbers(t *testing.T) {
	const least, most = math.MinInt, math.MaxInt
	for _, c := range []struct{ many, from, to, a, b int }{
		{5, least, most, 0, 5}, {5, least, least, 0, 0}, {5, most, most, 0, 0}, {5, most, least, 0, 0},
		{5, least, 0, 0, 1}, {5, least, -5, 0, 1}, {5, least, -6, 0, 0}, {5, 4, most, 4, 5}, {5, -1, most, 4, 5}, {5, 0, least, 0, 0},
		{most, 0, most, 0, most}, {most, 0, -1, 0, most}, {most, least, most, 0, most}, {most, least, -1, 0, most},
		{most, most - 1, most, most - 1, most}, {most, most, most, 0, 0}, {most, -1, -1, most - 1, most},
		{most, -most, -most, 0, 1}, {most, least, -most, 0, 1}, {most, least, least, 0, 0}, {most, 0, least, 0, 0}, {most, 0, 0, 0, 1},
		{most, -most, most - 1, 0, most}, {most - 1, most - 1, most, 0, 0}, {most - 1, most - 2, most, most - 2, most - 1},
		{least, least, most, 0, 0}, {least, most, least, 0, 0}, {least, least, least, 0, 0}, {least, most, most, 0, 0}, {least, 0, -1, 0, 0},
	} {
		isSpan(t, c.many, c.from, c.to, c.a, c.b)
	}
	far := []int{least, least + 1, least / 2, -1 << 32, -6, -5, -1, 0, 1, 4, 5, 6, 1 << 32, most / 2, most - 1, most}
	for _, many := range far {
		for _, from := range far {
			for _, to := range far {
				a, b := bigSpan(many, from, to)
				isSpan(t, many, from, to, a, b)
			}
		}
	}
}

// P15.2: of each short list, with all places on it and some beyond it.
func TestSpanOfEachShortList(t *testing.T) {
	for many := -3; many <= 9; many++ {
		for from := -13; from <= 13; from++ {
			for to := -13; to <= 13; to++ {
				a, b := plainSpan(many, from, to)
				isSpan(t, many, from, to, a, b)
				if c, d := bigSpan(many, from, to); c != a || d != b {
					t.Fatalf("the tests' own: %d, %d and %d, %d", a, b, c, d)
				}
			}
		}
	}
}

// P15.2: what is told are places of the list, so that it can be cut by them.
func TestSpanCutsAList(t *testing.T) {
	for seed := range 5000 {
		s := dice(seed)
		l := make([]Pair, s.roll(7))
		from, to := s.far(), s.far()
		a, b := Span(len(l), from, to)
		if a < 0 || b > len(l) || a > b || a == b && a != 0 {
			t.Fatalf("Span(%d, %d, %d): %d, %d", len(l), from, to, a, b)
		}
		_ = l[a:b]
	}
}
