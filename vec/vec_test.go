package vec

import (
	"math"
	"math/big"
	"testing"

	"polyphony/api"
)

const last = api.MaxReplicas - 1

// all is a vector with one number for every replica.
func all(n int) api.VV {
	var v api.VV
	for r := range v {
		v[r] = n
	}
	return v
}

// put is v with n for replica r.
func put(v api.VV, r, n int) api.VV {
	v[r] = n
	return v
}

// noise is a vector of numbers from 0 to top that look like no pattern, the same ones each time.
func noise(seed uint32, top int) api.VV {
	var v api.VV
	for r := range v {
		seed = seed*1664525 + 1013904223
		v[r] = int(seed>>8) % (top + 1)
	}
	return v
}

// rightOnes is vectors that can be: few numbers in every mix for the first and the last replica, the ends, and some of no pattern.
func rightOnes() []api.VV {
	l := []api.VV{all(api.MaxSeq), all(1), all(api.MaxSeq - 1), {1, 2}, {2, 1}, {3, 0, 4}}
	for _, first := range []int{0, 1, 2, api.MaxSeq} {
		for _, end := range []int{0, 1, 2, api.MaxSeq} {
			l = append(l, put(put(api.VV{}, 0, first), last, end))
		}
	}
	for seed := range uint32(8) {
		l = append(l, noise(seed, 1), noise(seed, 2), noise(seed, api.MaxSeq))
	}
	return l
}

// wrongNumbers is numbers that no vector that can be has.
func wrongNumbers() []int {
	return []int{-1, -2, -api.MaxSeq, math.MinInt + 1, math.MinInt, api.MaxSeq + 1, 2 * api.MaxSeq, 1 << 32, 1 << 62, math.MaxInt - 1, math.MaxInt}
}

// wrongOnes is vectors that can't be: one wrong number at the first, a middle and the last replica, and wrong ones everywhere.
func wrongOnes() []api.VV {
	l := []api.VV{}
	for _, n := range wrongNumbers() {
		l = append(l, all(n), put(all(api.MaxSeq), 7, n))
		for _, r := range []int{0, 7, last} {
			l = append(l, put(api.VV{}, r, n))
		}
	}
	return append(l, put(put(api.VV{}, 0, math.MinInt), last, math.MaxInt))
}

// anyOnes is both, since only some of the calls ask whether a vector can be.
func anyOnes() []api.VV { return append(rightOnes(), wrongOnes()...) }

func wrongReplicas() []int {
	return []int{-1, -2, -api.MaxReplicas, math.MinInt, api.MaxReplicas, api.MaxReplicas + 1, 2 * api.MaxReplicas, 1 << 32, math.MaxInt}
}

// wrongDots is dots that can't be: by the replica, by the number, and by both.
func wrongDots() []api.Dot {
	l := []api.Dot{}
	for _, r := range wrongReplicas() {
		for _, n := range []int{1, 2, api.MaxSeq, 0, -1, api.MaxSeq + 1} {
			l = append(l, api.Dot{R: r, N: n})
		}
	}
	for _, r := range []int{0, 7, last} {
		for _, n := range append(wrongNumbers(), 0) {
			l = append(l, api.Dot{R: r, N: n})
		}
	}
	return l
}

// P3.1: all numbers from 0 to MaxSeq.
func TestRight(t *testing.T) {
	for _, v := range append(rightOnes(), api.VV{}) {
		if !Right(v) {
			t.Errorf("Right(%v): false", v)
		}
	}
	for _, v := range wrongOnes() {
		if Right(v) {
			t.Errorf("Right(%v): true", v)
		}
	}
}

// P3.1: each replica's number is looked at.
func TestRightOfEachReplica(t *testing.T) {
	for r := range api.MaxReplicas {
		for _, n := range []int{0, 1, api.MaxSeq} {
			if v := put(api.VV{}, r, n); !Right(v) {
				t.Errorf("Right(%v): false", v)
			}
		}
		for _, n := range wrongNumbers() {
			if v := put(all(1), r, n); Right(v) {
				t.Errorf("Right(%v): true", v)
			}
		}
	}
}

// P3.1: the dot can be, and its number is at most that of its replica.
func TestHas(t *testing.T) {
	for _, c := range []struct {
		name string
		v    api.VV
		d    api.Dot
		want bool
	}{
		{"below", api.VV{1, 2}, api.Dot{R: 1, N: 1}, true},
		{"the last one it has", api.VV{1, 2}, api.Dot{R: 1, N: 2}, true},
		{"the next one", api.VV{1, 2}, api.Dot{R: 1, N: 3}, false},
		{"by another replica's number", api.VV{1, 2}, api.Dot{R: 0, N: 2}, false},
		{"the first of none", api.VV{}, api.Dot{R: 0, N: 1}, false},
		{"the number 0", api.VV{1, 2}, api.Dot{R: 1, N: 0}, false},
		{"the number 0 of none", api.VV{}, api.Dot{R: 0, N: 0}, false},
		{"the first of all", all(api.MaxSeq), api.Dot{R: 0, N: 1}, true},
		{"the last of all", all(api.MaxSeq), api.Dot{R: last, N: api.MaxSeq}, true},
		{"one short of the last", all(api.MaxSeq - 1), api.Dot{R: last, N: api.MaxSeq}, false},
		{"above MaxSeq in both", all(api.MaxSeq + 1), api.Dot{R: 0, N: api.MaxSeq + 1}, false},
		{"below 0 in both", all(-1), api.Dot{R: 0, N: -1}, false},
		{"a number above MaxSeq", all(math.MaxInt), api.Dot{R: 0, N: api.MaxSeq}, true},
		{"a number below 0", all(math.MinInt), api.Dot{R: 0, N: 1}, false},
		{"wrong elsewhere", api.VV{-1, 2, math.MaxInt}, api.Dot{R: 1, N: 2}, true},
	} {
		if got := Has(c.v, c.d); got != c.want {
			t.Errorf("%s: Has(%v, %v) = %v", c.name, c.v, c.d, got)
		}
	}
}

// P3.1: a vector has each replica's dots from 1 to that replica's number, and no others.
func TestHasOfEachReplica(t *testing.T) {
	v := noise(5, 9)
	for r := range api.MaxReplicas {
		for n := -1; n <= 11; n++ {
			if got, want := Has(v, api.Dot{R: r, N: n}), n >= 1 && n <= v[r]; got != want {
				t.Errorf("Has(%v, %d %d) = %v", v, r, n, got)
			}
		}
	}
}

// P3.1, R1: no vector has a dot that can't be.
func TestHasNoWrongDot(t *testing.T) {
	for _, v := range anyOnes() {
		for _, d := range wrongDots() {
			if Has(v, d) {
				t.Errorf("Has(%v, %v): true", v, d)
			}
		}
	}
}

// P3.1: the dot with the number one above.
func TestNext(t *testing.T) {
	if d, e := Next(api.VV{1, 2}, 1); d != (api.Dot{R: 1, N: 3}) || e != api.OK {
		t.Errorf("Next of 1 2 for replica 1: %v, %d", d, e)
	}
	for _, v := range rightOnes() {
		for r := range api.MaxReplicas {
			want, wantE := api.Dot{R: r, N: v[r] + 1}, api.OK
			if v[r] == api.MaxSeq {
				want, wantE = api.Dot{}, api.ErrOver
			}
			if d, e := Next(v, r); d != want || e != wantE {
				t.Errorf("Next(%v, %d) = %v, %d, want %v, %d", v, r, d, e, want, wantE)
			}
		}
	}
}

// P3.1: the edges of a replica's numbers, and the errors, with no dot beside them (R2).
func TestNextAtTheEdges(t *testing.T) {
	for _, c := range []struct {
		name string
		v    api.VV
		r    int
		d    api.Dot
		e    api.Errno
	}{
		{"the first replica's first", api.VV{}, 0, api.Dot{R: 0, N: 1}, api.OK},
		{"the last replica's first", api.VV{}, last, api.Dot{R: last, N: 1}, api.OK},
		{"the last number", all(api.MaxSeq - 1), 3, api.Dot{R: 3, N: api.MaxSeq}, api.OK},
		{"others at MaxSeq", put(all(api.MaxSeq), 4, 7), 4, api.Dot{R: 4, N: 8}, api.OK},
		{"at MaxSeq, the first replica", api.VV{api.MaxSeq}, 0, api.Dot{}, api.ErrOver},
		{"at MaxSeq, the last replica", all(api.MaxSeq), last, api.Dot{}, api.ErrOver},
		{"at MaxSeq, and no replica", all(api.MaxSeq), api.MaxReplicas, api.Dot{}, api.ErrArg},
		{"at MaxSeq, and wrong elsewhere", put(all(api.MaxSeq), 5, -1), 4, api.Dot{}, api.ErrArg},
		{"above MaxSeq itself", put(api.VV{}, 4, api.MaxSeq+1), 4, api.Dot{}, api.ErrArg},
		{"below 0 itself", put(api.VV{}, 4, -1), 4, api.Dot{}, api.ErrArg},
	} {
		if d, e := Next(c.v, c.r); d != c.d || e != c.e {
			t.Errorf("%s: Next(%v, %d) = %v, %d, want %v, %d", c.name, c.v, c.r, d, e, c.d, c.e)
		}
	}
}

// P3.1, R1, R2: ErrArg for what is no replica, and for vectors that can't be, alone and together.
func TestNextOfWrongThings(t *testing.T) {
	for _, v := range anyOnes() {
		for _, r := range wrongReplicas() {
			if d, e := Next(v, r); d != (api.Dot{}) || e != api.ErrArg {
				t.Errorf("Next(%v, %d) = %v, %d", v, r, d, e)
			}
		}
	}
	for _, v := range wrongOnes() {
		for r := range api.MaxReplicas {
			if d, e := Next(v, r); d != (api.Dot{}) || e != api.ErrArg {
				t.Errorf("Next(%v, %d) = %v, %d", v, r, d, e)
			}
		}
	}
}

// P3.1: the next dot laid in, and the errors, with no vector beside them (R2).
func TestWith(t *testing.T) {
	for _, c := range []struct {
		name string
		v    api.VV
		d    api.Dot
		want api.VV
		e    api.Errno
	}{
		{"the next one", api.VV{1, 2}, api.Dot{R: 1, N: 3}, api.VV{1, 3}, api.OK},
		{"the first replica's first", api.VV{}, api.Dot{R: 0, N: 1}, api.VV{1}, api.OK},
		{"the last replica's first", api.VV{}, api.Dot{R: last, N: 1}, put(api.VV{}, last, 1), api.OK},
		{"the last number", all(api.MaxSeq - 1), api.Dot{R: 2, N: api.MaxSeq}, put(all(api.MaxSeq-1), 2, api.MaxSeq), api.OK},
		{"others at MaxSeq", put(all(api.MaxSeq), 4, 7), api.Dot{R: 4, N: 8}, put(all(api.MaxSeq), 4, 8), api.OK},

		{"a gap", api.VV{1, 2}, api.Dot{R: 1, N: 4}, api.VV{}, api.ErrState},
		{"had already", api.VV{1, 2}, api.Dot{R: 1, N: 2}, api.VV{}, api.ErrState},
		{"had long since", api.VV{1, 2}, api.Dot{R: 1, N: 1}, api.VV{}, api.ErrState},
		{"the next one of another replica", api.VV{1, 2}, api.Dot{R: 0, N: 3}, api.VV{}, api.ErrState},
		{"the last number of none", api.VV{}, api.Dot{R: 0, N: api.MaxSeq}, api.VV{}, api.ErrState},
		{"MaxSeq once more", all(api.MaxSeq), api.Dot{R: 0, N: api.MaxSeq}, api.VV{}, api.ErrState},
		{"the first one behind MaxSeq", all(api.MaxSeq), api.Dot{R: 0, N: 1}, api.VV{}, api.ErrState},

		{"one above MaxSeq", all(api.MaxSeq), api.Dot{R: 0, N: api.MaxSeq + 1}, api.VV{}, api.ErrArg},
		{"the number 0", api.VV{}, api.Dot{R: 0, N: 0}, api.VV{}, api.ErrArg},
		{"the number 0 behind -1", api.VV{-1}, api.Dot{R: 0, N: 0}, api.VV{}, api.ErrArg},
		{"no replica, and no next one", api.VV{1, 2}, api.Dot{R: api.MaxReplicas, N: 9}, api.VV{}, api.ErrArg},
		{"no replica below 0", api.VV{1, 2}, api.Dot{R: -1, N: 1}, api.VV{}, api.ErrArg},
		{"the vector can't be, and no next one", api.VV{-1, 2}, api.Dot{R: 1, N: 9}, api.VV{}, api.ErrArg},
		{"the vector can't be elsewhere", put(api.VV{1, 2}, last, api.MaxSeq+1), api.Dot{R: 1, N: 3}, api.VV{}, api.ErrArg},
		{"the vector and the dot can't be", api.VV{-1}, api.Dot{R: -1, N: -1}, api.VV{}, api.ErrArg},
	} {
		if got, e := With(c.v, c.d); got != c.want || e != c.e {
			t.Errorf("%s: With(%v, %v) = %v, %d, want %v, %d", c.name, c.v, c.d, got, e, c.want, c.e)
		}
	}
}

// P3.1, R1, R2: ErrArg wherever the vector or the dot can't be.
func TestWithWrongThings(t *testing.T) {
	for _, v := range anyOnes() {
		for _, d := range wrongDots() {
			if got, e := With(v, d); got != (api.VV{}) || e != api.ErrArg {
				t.Errorf("With(%v, %v) = %v, %d", v, d, got, e)
			}
		}
	}
	for _, v := range wrongOnes() {
		for r := range api.MaxReplicas {
			for _, n := range []int{1, 2, api.MaxSeq} {
				d := api.Dot{R: r, N: n}
				if got, e := With(v, d); got != (api.VV{}) || e != api.ErrArg {
					t.Errorf("With(%v, %v) = %v, %d", v, d, got, e)
				}
			}
		}
	}
}

// P3.1: what Next answers is just what With takes: behind it the vector has that dot, and is else as it was.
func TestWithNext(t *testing.T) {
	for _, v := range rightOnes() {
		for r := range api.MaxReplicas {
			d, e := Next(v, r)
			if e == api.ErrOver {
				continue
			}
			w, e := With(v, d)
			if e != api.OK || w != put(v, r, v[r]+1) {
				t.Errorf("With(%v, %v) = %v, %d", v, d, w, e)
			}
			if Has(v, d) || !Has(w, d) || Compare(v, w) != Behind || Lacks(v, w) != 1 {
				t.Errorf("With(%v, %v) = %v: not the one dot more", v, d, w)
			}
			if again, e := With(w, d); e != api.ErrState || again != (api.VV{}) {
				t.Errorf("With(%v, %v) once more = %v, %d", v, d, again, e)
			}
		}
	}
}

// P3.2: for each replica the greater, the smaller number, of vectors that can't be as well.
func TestJoinAndMeet(t *testing.T) {
	if j, m := Join(api.VV{1, 2}, api.VV{2, 1}), Meet(api.VV{1, 2}, api.VV{2, 1}); j != (api.VV{2, 2}) || m != (api.VV{1, 1}) {
		t.Errorf("of 1 2 and 2 1: Join %v, Meet %v", j, m)
	}
	for _, a := range anyOnes() {
		for _, b := range anyOnes() {
			j, m := Join(a, b), Meet(a, b)
			for r := range api.MaxReplicas {
				great, small := a[r], b[r]
				if b[r] > a[r] {
					great, small = b[r], a[r]
				}
				if j[r] != great || m[r] != small {
					t.Fatalf("of %v and %v: Join %v, Meet %v", a, b, j, m)
				}
			}
		}
	}
}

// P3.2: the ways have the numbers that the chapter gives them.
func TestWays(t *testing.T) {
	if Same != 0 || Behind != 1 || Ahead != 2 || Abreast != 3 {
		t.Error("the ways' numbers")
	}
}

// P3.2: how two vectors stand to one another.
func TestCompare(t *testing.T) {
	for _, c := range []struct {
		a, b api.VV
		want int
	}{
		{api.VV{1, 2}, api.VV{2, 1}, 3},
		{api.VV{1, 2}, api.VV{1, 2}, 0},
		{api.VV{1, 2}, api.VV{1, 3}, 1},
		{api.VV{1, 2}, api.VV{2, 3}, 1},
		{api.VV{1, 2}, api.VV{1, 1}, 2},
		{api.VV{1, 2}, api.VV{}, 2},
		{api.VV{}, api.VV{}, 0},
		{api.VV{}, all(api.MaxSeq), 1},
		{all(api.MaxSeq), api.VV{}, 2},
		{all(api.MaxSeq), all(api.MaxSeq), 0},
		{put(api.VV{}, last, 1), api.VV{1}, 3},
		{all(math.MinInt), all(math.MaxInt), 1},
		{all(math.MaxInt), all(math.MinInt), 2},
		{api.VV{-1}, api.VV{}, 1},
		{api.VV{-1, 1}, api.VV{}, 3},
	} {
		if got := Compare(c.a, c.b); got != c.want {
			t.Errorf("Compare(%v, %v) = %d, want %d", c.a, c.b, got, c.want)
		}
	}
}

// P3.2: by the document's words, for every two vectors, and in both orders.
func TestCompareByItsWords(t *testing.T) {
	for _, a := range anyOnes() {
		for _, b := range anyOnes() {
			atMost, atLeast := true, true
			for r := range api.MaxReplicas {
				atMost = atMost && a[r] <= b[r]
				atLeast = atLeast && a[r] >= b[r]
			}
			want := Abreast
			switch {
			case atMost && atLeast:
				want = Same
			case atMost:
				want = Behind
			case atLeast:
				want = Ahead
			}
			if got := Compare(a, b); got != want {
				t.Fatalf("Compare(%v, %v) = %d, want %d", a, b, got, want)
			}
		}
	}
}

// P3.2: one replica alone decides, whichever it is.
func TestCompareOfEachReplica(t *testing.T) {
	for _, v := range []api.VV{{}, all(5), noise(3, 100)} {
		for r := range api.MaxReplicas {
			w := put(v, r, v[r]+1)
			if Compare(v, w) != Behind || Compare(w, v) != Ahead {
				t.Errorf("%v and %v: %d, %d", v, w, Compare(v, w), Compare(w, v))
			}
			for q := range api.MaxReplicas {
				x := put(v, q, v[q]+1)
				want := Abreast
				if r == q {
					want = Same
				}
				if got := Compare(w, x); got != want {
					t.Errorf("%v and %v: %d, want %d", w, x, got, want)
				}
			}
		}
	}
}

// P3.2: by how much b's numbers are above a's, all together, and held at 2^62.
func TestLacks(t *testing.T) {
	const held = 1 << 62
	for _, c := range []struct {
		name string
		a, b api.VV
		want int
	}{
		{"one above, one below", api.VV{1, 2}, api.VV{3, 0, 4}, 6},
		{"nothing", api.VV{}, api.VV{}, 0},
		{"the same", all(api.MaxSeq), all(api.MaxSeq), 0},
		{"ahead", all(api.MaxSeq), api.VV{}, 0},
		{"all there can be", api.VV{}, all(api.MaxSeq), api.MaxReplicas * api.MaxSeq},
		{"the first replica's one", api.VV{}, api.VV{1}, 1},
		{"the last replica's one", api.VV{}, put(api.VV{}, last, 1), 1},
		{"below 0", api.VV{-3}, api.VV{-1}, 2},
		{"across 0", api.VV{-3}, api.VV{4}, 7},
		{"one short of held", api.VV{}, api.VV{held - 1}, held - 1},
		{"just held", api.VV{}, api.VV{held}, held},
		{"one too many", api.VV{}, api.VV{held + 1}, held},
		{"one too many by two replicas", api.VV{}, api.VV{held, 1}, held},
		{"one short by two replicas", api.VV{}, api.VV{held - 2, 1}, held - 1},
		{"just held by two replicas", api.VV{}, put(api.VV{held - 1}, last, 1), held},
		{"two halves", api.VV{}, api.VV{held / 2, held / 2}, held},
		{"one short by two halves", api.VV{}, api.VV{held / 2, held/2 - 1}, held - 1},
		{"held, then below", api.VV{0, 9}, api.VV{math.MaxInt, 0}, held},
		{"an int's whole room", api.VV{math.MinInt}, api.VV{math.MaxInt}, held},
		{"from the least to 0", api.VV{math.MinInt}, api.VV{}, held},
		{"an int's whole room, the other way round", api.VV{math.MaxInt}, api.VV{math.MinInt}, 0},
		{"too much of all", all(math.MinInt), all(math.MaxInt), held},
		{"four of 2^62, which wrap round to 0", api.VV{}, api.VV{held, held, held, held}, held},
		{"two of 2^63, which wrap round to 0", api.VV{math.MinInt, math.MinInt}, api.VV{}, held},
		{"no more than it was, behind too much", api.VV{math.MinInt, 0, 0}, api.VV{math.MaxInt, 1, 1}, held},
	} {
		if got := Lacks(c.a, c.b); got != c.want {
			t.Errorf("%s: Lacks(%v, %v) = %d, want %d", c.name, c.a, c.b, got, c.want)
		}
	}
}

// P3.2: by the document's words, in numbers without bounds, for every two vectors.
func TestLacksByItsWords(t *testing.T) {
	held := new(big.Int).Lsh(big.NewInt(1), 62)
	for _, a := range anyOnes() {
		for _, b := range anyOnes() {
			sum := new(big.Int)
			for r := range api.MaxReplicas {
				if b[r] > a[r] {
					sum.Add(sum, big.NewInt(int64(b[r])))
					sum.Sub(sum, big.NewInt(int64(a[r])))
				}
			}
			if sum.Cmp(held) > 0 {
				sum = held
			}
			if got := Lacks(a, b); int64(got) != sum.Int64() {
				t.Fatalf("Lacks(%v, %v) = %d, want %v", a, b, got, sum)
			}
		}
	}
}

// P3.3: neither the order nor the grouping matters, and Join and Meet take each other in.
func TestJoinAndMeetByTheirLaws(t *testing.T) {
	l := anyOnes()
	for _, a := range l {
		if Join(a, a) != a || Meet(a, a) != a {
			t.Fatalf("of %v and itself", a)
		}
		for _, b := range l {
			if Join(a, b) != Join(b, a) || Meet(a, b) != Meet(b, a) {
				t.Fatalf("the order of %v and %v", a, b)
			}
			if Join(a, Meet(a, b)) != a || Meet(a, Join(a, b)) != a {
				t.Fatalf("%v and %v don't take each other in", a, b)
			}
			for _, c := range l {
				if Join(Join(a, b), c) != Join(a, Join(b, c)) || Meet(Meet(a, b), c) != Meet(a, Meet(b, c)) {
					t.Fatalf("the grouping of %v, %v and %v", a, b, c)
				}
			}
		}
	}
}

// P3.3: Same or Behind is just that the join is b, and that nothing of a is above b.
func TestBehindByItsLaws(t *testing.T) {
	for _, a := range anyOnes() {
		for _, b := range anyOnes() {
			way := Compare(a, b)
			behind := way == Same || way == Behind
			if behind != (Join(a, b) == b) || behind != (Meet(a, b) == a) || behind != (Lacks(b, a) == 0) {
				t.Fatalf("%v and %v: %d", a, b, way)
			}
		}
	}
}

// P3.3: Same or Behind is just that a has no dot that b lacks; Lacks counts those dots.
func TestBehindByDots(t *testing.T) {
	const top = 3
	for seed := range uint32(60) {
		for other := range uint32(60) {
			a, b := noise(seed, 2), noise(1000+other, top)
			if seed%3 == 0 { // so that every way comes up
				a = Meet(a, b)
			}
			lacked := 0
			for r := range api.MaxReplicas {
				for n := 1; n <= top; n++ {
					if d := (api.Dot{R: r, N: n}); Has(a, d) && !Has(b, d) {
						lacked++
					}
				}
			}
			way := Compare(a, b)
			if (way == Same || way == Behind) != (lacked == 0) || Lacks(b, a) != lacked {
				t.Fatalf("%v and %v: %d, with %d dots that b lacks", a, b, way, lacked)
			}
		}
	}
}

// P3.3: at the numbers' end too one dot decides.
func TestBehindAtTheLastDot(t *testing.T) {
	for r := range api.MaxReplicas {
		a, b := all(api.MaxSeq), put(all(api.MaxSeq), r, api.MaxSeq-1)
		d := api.Dot{R: r, N: api.MaxSeq}
		if !Has(a, d) || Has(b, d) || Compare(a, b) != Ahead || Compare(b, a) != Behind || Lacks(b, a) != 1 || Lacks(a, b) != 0 {
			t.Errorf("the last dot of replica %d", r)
		}
	}
}

// R3, R6: what is handed in stays as it is, and the same is answered once more.
func TestNothingIsChangedOrKept(t *testing.T) {
	l := anyOnes()
	for i, a := range l {
		b := l[(i+1)%len(l)]
		a0, b0 := a, b
		d := api.Dot{R: 1, N: a[1] + 1}
		j, m := Join(a, b), Meet(a, b)
		w, we := With(a, d)
		n, ne := Next(a, 1)
		w2, we2 := With(a, d)
		n2, ne2 := Next(a, 1)
		if a != a0 || b != b0 {
			t.Fatalf("%v or %v was changed", a0, b0)
		}
		if Join(a, b) != j || Meet(a, b) != m || w2 != w || we2 != we || n2 != n || ne2 != ne {
			t.Fatalf("another answer of %v and %v", a, b)
		}
	}
}
