package matrix

import (
	"math"
	"reflect"
	"slices"
	"testing"

	"polyphony/api"
)

// The document's example: rows 3 1 and 2 2.
func TestExample(t *testing.T) {
	m := New(2)
	see(t, m, 0, api.VV{3, 1}, api.OK)
	see(t, m, 1, api.VV{2, 2}, api.OK)
	same(t, "Stable", m.Stable(), api.VV{2, 1})
	same(t, "Cut of 3 1: replica 1 has made a second one", m.Cut(api.VV{3, 1}), api.VV{})
	same(t, "Cut of 3 2", m.Cut(api.VV{3, 2}), api.VV{2, 1})
	same(t, "Row 0", m.Row(0), api.VV{3, 1})
	same(t, "Row 1", m.Row(1), api.VV{2, 2})
}

// P19.1: a new matrix has zero rows, of as many replicas as it was asked for.
func TestNew(t *testing.T) {
	for replicas := 1; replicas <= most; replicas++ {
		m := New(replicas)
		asThe(t, "a new one", m, newPlain(replicas))
		for r := range replicas {
			see(t, m, r, all(r+1), api.OK)
			same(t, "Row", m.Row(r), all(r+1))
		}
		see(t, m, replicas, all(1), api.ErrArg)
		see(t, m, -1, all(1), api.ErrArg)
		same(t, "Stable", m.Stable(), all(1))
	}
}

// P19.1: the number of replicas is held from 1 to MaxReplicas.
func TestNewHeld(t *testing.T) {
	held := []struct{ asked, has int }{
		{0, 1}, {-1, 1}, {-most, 1}, {math.MinInt, 1}, {1, 1}, {2, 2},
		{last, last}, {most, most}, {most + 1, most}, {1 << 32, most}, {math.MaxInt, most},
	}
	for _, c := range held {
		m := New(c.asked)
		for r := range c.has {
			see(t, m, r, all(7), api.OK)
		}
		// Rows beyond these would be zero ones, and Stable zero with them.
		same(t, "Stable", m.Stable(), all(7))
		for _, r := range wrongReplicas(c.has) {
			see(t, m, r, all(9), api.ErrArg)
			same(t, "Row of none", m.Row(r), api.VV{})
		}
		same(t, "Stable behind these", m.Stable(), all(7))
	}
}

// P19.1: a row is joined with what comes, number for number; no other row is touched.
func TestJoined(t *testing.T) {
	for _, replicas := range []int{1, 2, 3, most} {
		for _, r := range []int{0, replicas / 2, replicas - 1} {
			m := New(replicas)
			see(t, m, r, api.VV{3, 1, 0, 5}, api.OK)
			see(t, m, r, api.VV{1, 4, 0, 5}, api.OK)
			same(t, "joined", m.Row(r), api.VV{3, 4, 0, 5})
			see(t, m, r, api.VV{}, api.OK)
			same(t, "nothing more", m.Row(r), api.VV{3, 4, 0, 5})
			see(t, m, r, api.VV{2, 2, 0, 2}, api.OK)
			same(t, "less", m.Row(r), api.VV{3, 4, 0, 5})
			see(t, m, r, put(api.VV{}, last, 1), api.OK)
			same(t, "one of the last replica", m.Row(r), put(api.VV{3, 4, 0, 5}, last, 1))
			for q := range replicas {
				if q != r {
					same(t, "another one's row", m.Row(q), api.VV{})
				}
			}
		}
	}
}

// P19.1: a row has numbers of all replicas, those that the matrix doesn't have among them.
func TestNumbersOfOthers(t *testing.T) {
	m := New(2)
	see(t, m, 0, api.VV{1, 1, 8, 9}, api.OK)
	see(t, m, 1, put(api.VV{1, 1, 9, 8}, last, 3), api.OK)
	same(t, "Row 0", m.Row(0), api.VV{1, 1, 8, 9})
	same(t, "Stable", m.Stable(), api.VV{1, 1, 8, 8})
	// What isn't a replica of the matrix plays no part in whether there is a cut.
	same(t, "Cut", m.Cut(api.VV{1, 1}), api.VV{1, 1, 8, 8})
	same(t, "Cut of less than nothing elsewhere", m.Cut(api.VV{1, 1, -1, math.MinInt}), api.VV{1, 1, 8, 8})
}

// P19.1: the least and the greatest numbers, in each place.
func TestNumbers(t *testing.T) {
	for _, replicas := range []int{1, 2, most} {
		for r := range replicas {
			for q := range most {
				for _, n := range []int{0, 1, top - 1, top} {
					m := New(replicas)
					v := put(api.VV{}, q, n)
					see(t, m, r, v, api.OK)
					same(t, "one number", m.Row(r), v)
					see(t, m, r, put(all(top), q, n), api.OK)
					same(t, "one number, and the greatest ones", m.Row(r), put(all(top), q, n))
					see(t, m, r, all(top), api.OK)
					same(t, "all of them", m.Row(r), all(top))
				}
			}
		}
	}
}

// P19.1: all rows are met in Stable: a row that has one number less than the others, in each place of each row.
func TestStable(t *testing.T) {
	for _, replicas := range []int{1, 2, 3, last, most} {
		for r := range replicas {
			for q := range most {
				for _, n := range []int{0, 1, 4, top - 1} {
					m := New(replicas)
					for o := range replicas {
						v := all(n + 1)
						if o == r {
							v[q] = n
						}
						see(t, m, o, v, api.OK)
					}
					same(t, "Stable", m.Stable(), put(all(n+1), q, n))
					see(t, m, r, put(api.VV{}, q, n+1), api.OK)
					same(t, "Stable, with it", m.Stable(), all(n+1))
				}
			}
		}
	}
}

// P19.1: as long as one of them isn't known to have seen anything, nothing is stable.
func TestStableOfOneMissing(t *testing.T) {
	for replicas := 2; replicas <= most; replicas++ {
		for silent := range replicas {
			m := New(replicas)
			for r := range replicas {
				if r != silent {
					see(t, m, r, all(top), api.OK)
				}
			}
			same(t, "Stable", m.Stable(), api.VV{})
			same(t, "Cut", m.Cut(all(top)), api.VV{})
			see(t, m, silent, all(1), api.OK)
			same(t, "Stable, with all", m.Stable(), all(1))
		}
	}
}

// P19.2: one number of seen alone is one below, the same as, or above that which its replica has made.
func TestCut(t *testing.T) {
	for _, replicas := range []int{1, 2, 3, most} {
		for r := range replicas {
			for _, n := range []int{1, 2, 9, top} {
				m := New(replicas)
				for o := range replicas {
					see(t, m, o, put(all(n-1), o, n), api.OK)
				}
				stable := m.Stable()
				if replicas > 1 {
					same(t, "Stable", stable, all(n-1))
				}
				same(t, "one below, at one replica", m.Cut(put(all(n), r, n-1)), api.VV{})
				same(t, "one below, the others far above", m.Cut(put(all(top), r, n-1)), api.VV{})
				same(t, "nothing of one replica", m.Cut(put(all(top), r, 0)), api.VV{})
				same(t, "the same", m.Cut(all(n)), stable)
				same(t, "one above, at one replica", m.Cut(put(all(n), r, n+1)), stable)
				same(t, "much above", m.Cut(put(all(n), r, math.MaxInt)), stable)
			}
		}
	}
}

// P19.2: the first replica, or the last one, alone has made one more.
func TestCutOfOneMore(t *testing.T) {
	for _, replicas := range []int{2, 3, most} {
		for _, r := range []int{0, replicas - 1} {
			m := New(replicas)
			for o := range replicas {
				see(t, m, o, all(4), api.OK)
			}
			same(t, "all have seen all", m.Cut(all(4)), all(4))
			see(t, m, r, put(api.VV{}, r, 5), api.OK)
			same(t, "one has made one more", m.Cut(all(4)), api.VV{})
			same(t, "that one is seen", m.Cut(put(all(4), r, 5)), all(4))
			same(t, "Stable", m.Stable(), all(4))
		}
	}
}

// P19.2: only a replica's number in its own row counts: what others are known to have seen of it, or what it has of others, doesn't.
func TestCutAsksOwnNumbers(t *testing.T) {
	m := New(3)
	see(t, m, 0, api.VV{2, 9, 9, 9}, api.OK)
	see(t, m, 1, api.VV{9, 3, 9, 9}, api.OK)
	see(t, m, 2, api.VV{9, 9, 4, 9}, api.OK)
	same(t, "own numbers", m.Cut(api.VV{2, 3, 4}), api.VV{2, 3, 4, 9})
	same(t, "the first one short", m.Cut(api.VV{1, 3, 4}), api.VV{})
	same(t, "the second one short", m.Cut(api.VV{2, 2, 4}), api.VV{})
	same(t, "the last one short", m.Cut(api.VV{2, 3, 3}), api.VV{})
}

// P19.2: of a matrix of which nothing is known there is nothing to cut.
func TestCutOfNew(t *testing.T) {
	for _, replicas := range []int{1, 2, most} {
		for _, v := range []api.VV{{}, all(1), all(top), all(-1), all(math.MaxInt)} {
			same(t, "Cut", New(replicas).Cut(v), api.VV{})
		}
	}
}

// P19.2: what can't be is asked number for number, as the words have it.
func TestCutOfWrongVectors(t *testing.T) {
	for _, replicas := range []int{1, 2, most} {
		for r := range replicas {
			for _, n := range wrongNumbers() {
				m := New(replicas)
				// 0 of its own is above what is below 0.
				if n < 0 {
					for o := range replicas {
						see(t, m, o, put(all(6), r, 0), api.OK)
					}
					same(t, "less than nothing of one", m.Cut(put(all(6), r, n)), api.VV{})
					same(t, "nothing of one", m.Cut(put(all(6), r, 0)), put(all(6), r, 0))
					continue
				}
				for o := range replicas {
					see(t, m, o, all(top), api.OK)
				}
				same(t, "more than can be of one", m.Cut(put(all(top), r, n)), all(top))
				same(t, "more than can be of all", m.Cut(all(n)), all(top))
			}
		}
	}
}

// P19.1, R2: replicas that the matrix doesn't have, and vectors that can't be; a See that is ErrArg changes nothing.
func TestSeeWrong(t *testing.T) {
	for _, replicas := range []int{1, 2, 3, last, most} {
		m, p := New(replicas), newPlain(replicas)
		for r := range replicas {
			v := put(all(2), r, r+3)
			see(t, m, r, v, p.see(r, v))
		}
		before := *m
		for _, r := range wrongReplicas(replicas) {
			for _, v := range []api.VV{{}, all(9), all(top), all(-1), all(math.MaxInt)} {
				see(t, m, r, v, api.ErrArg)
			}
			same(t, "Row of none", m.Row(r), api.VV{})
		}
		for r := range replicas {
			for q := range most {
				for _, n := range wrongNumbers() {
					// The numbers beside it would be news.
					see(t, m, r, put(all(9), q, n), api.ErrArg)
					see(t, m, r, put(all(top), q, n), api.ErrArg)
				}
			}
		}
		if *m != before {
			t.Fatalf("a See that is ErrArg changed\n%v\nto\n%v", before, *m)
		}
		asThe(t, "behind wrong ones", m, p)
	}
}

// P19.1 to P19.3: as the plain matrix tells, whatever comes in whatever order; rows and Stable never fall, and Stable is at most each row.
func TestAsThePlainOne(t *testing.T) {
	for seed := range dice(150) {
		s := seed
		replicas := pick(&s, 1, 2, 3, 5, last, most)
		m, p := New(replicas), newPlain(replicas)
		for range 30 {
			r, v := s.roll(replicas), some(&s)
			switch s.roll(8) {
			case 0:
				r = pick(&s, wrongReplicas(replicas)...)
			case 1:
				v[s.roll(most)] = pick(&s, wrongNumbers()...)
			}
			before := *m
			see(t, m, r, v, p.see(r, v))
			asThe(t, "as the plain one", m, p)
			asked := own(p)
			asked[s.roll(most)] += s.roll(3) - 1
			same(t, "Cut near the own numbers", m.Cut(asked), p.cut(asked))
			neverFalls(t, &before, m, replicas)
		}
	}
}

// isAtMost tells whether each number of a is at most that of b.
func isAtMost(a, b api.VV) bool {
	for r, n := range a {
		if n > b[r] {
			return false
		}
	}
	return true
}

// neverFalls holds a matrix against what it was ahead of a call.
func neverFalls(t *testing.T, before, m *Matrix, replicas int) {
	t.Helper()
	if !isAtMost(before.Stable(), m.Stable()) {
		t.Fatalf("Stable fell from\n%v\nto\n%v", before.Stable(), m.Stable())
	}
	for r := range replicas {
		if !isAtMost(before.Row(r), m.Row(r)) {
			t.Fatalf("row %d fell from\n%v\nto\n%v", r, before.Row(r), m.Row(r))
		}
		if !isAtMost(m.Stable(), m.Row(r)) {
			t.Fatalf("Stable\n%v\nis above row %d\n%v", m.Stable(), r, m.Row(r))
		}
	}
}

// P19.1: what comes in whatever order, some of it twice, leads to the same rows.
func TestWhateverOrder(t *testing.T) {
	for seed := range dice(60) {
		s := seed
		replicas := 1 + s.roll(most)
		l := sightings(&s, replicas, 40)
		first := New(replicas)
		for _, x := range l {
			see(t, first, x.r, x.v, api.OK)
		}
		for range 4 {
			m := New(replicas)
			for _, x := range mixed(&s, slices.Concat(l, l[:s.roll(len(l))])) {
				see(t, m, x.r, x.v, api.OK)
			}
			for r := range replicas {
				same(t, "Row", m.Row(r), first.Row(r))
			}
			same(t, "Stable", m.Stable(), first.Stable())
			same(t, "Cut", m.Cut(all(top)), first.Cut(all(top)))
		}
	}
}

// P19.2: what is cut all have seen; and the one that cuts has seen all that each of them had made when it was told to have seen that.
func TestCutIsSeenByAll(t *testing.T) {
	for seed := range dice(80) {
		s := seed
		replicas := 2 + s.roll(4)
		had := make([]api.VV, replicas) // what each has seen
		m := New(replicas)              // what replica 0 knows of it
		cuts := 0
		for range 600 {
			r, q := s.roll(replicas), s.roll(replicas)
			switch s.roll(9) {
			case 0:
				had[r][r]++
			case 1, 2, 3, 4:
				for o, n := range had[q] {
					had[r][o] = max(had[r][o], n)
				}
			default:
				see(t, m, r, had[r], api.OK)
			}
			cut := m.Cut(had[0])
			if cut != (api.VV{}) {
				cuts++
			}
			for r := range replicas {
				if !isAtMost(cut, had[r]) {
					t.Fatalf("seed %d: cut %v, of which replica %d has seen %v", seed, cut, r, had[r])
				}
				if cut != (api.VV{}) && m.Row(r)[r] > had[0][r] {
					t.Fatalf("seed %d: cut %v, though %v lacks what replica %d had made: %v", seed, cut, had[0], r, m.Row(r))
				}
			}
		}
		if cuts == 0 {
			t.Errorf("seed %d: never was anything cut", seed)
		}
	}
}

// P19.3, R1: of a nil Matrix, and the zero one, See is ErrArg, all else zero.
func TestNilAndZero(t *testing.T) {
	var zero Matrix
	for _, m := range []*Matrix{nil, &zero, new(Matrix)} {
		for _, r := range append(wrongReplicas(1), 0, 1, 7, last) {
			for _, v := range []api.VV{{}, {1}, all(1), all(top), all(top + 1), all(-1), all(math.MinInt), all(math.MaxInt)} {
				see(t, m, r, v, api.ErrArg)
				same(t, "Row", m.Row(r), api.VV{})
				same(t, "Stable", m.Stable(), api.VV{})
				same(t, "Cut", m.Cut(v), api.VV{})
			}
		}
	}
}

// R1: no replica and no vector leads to a panic, and what can't be never comes out.
func TestNoPanic(t *testing.T) {
	numbers := append(wrongNumbers(), 0, 1, top-1, top)
	for seed := range dice(200) {
		s := seed
		m := New(pick(&s, append(wrongReplicas(1), 1, 2, 3, last, most)...))
		for range 40 {
			v := all(pick(&s, numbers...))
			if s.roll(2) == 0 {
				v = some(&s)
			}
			v[s.roll(most)] = pick(&s, numbers...)
			r := pick(&s, append(wrongReplicas(most), 0, 1, 7, last)...)
			m.See(r, v)
			for _, told := range []api.VV{m.Row(r), m.Stable(), m.Cut(v)} {
				if !canBe(told) {
					t.Fatalf("seed %d: told what can't be: %v", seed, told)
				}
			}
		}
	}
}

// R3: what goes in and comes out is a value of its own, and so is each matrix.
func TestValuesOfTheirOwn(t *testing.T) {
	m, other := New(2), New(2)
	v := api.VV{3, 1}
	see(t, m, 0, v, api.OK)
	see(t, m, 1, v, api.OK)
	v[0], v[1] = 9, 9
	same(t, "behind a change of what went in", m.Row(0), api.VV{3, 1})
	row, stable, cut := m.Row(0), m.Stable(), m.Cut(v)
	for _, told := range []*api.VV{&row, &stable, &cut} {
		same(t, "told", *told, api.VV{3, 1})
		*told = all(7)
	}
	same(t, "Row, behind a change of what came out", m.Row(0), api.VV{3, 1})
	same(t, "the other row", m.Row(1), api.VV{3, 1})
	same(t, "Stable, behind a change of what came out", m.Stable(), api.VV{3, 1})
	same(t, "what went in", v, api.VV{9, 9})
	before := m.Row(0)
	see(t, m, 0, all(8), api.OK)
	same(t, "an answer from ahead of a See", before, api.VV{3, 1})
	asThe(t, "another matrix", other, newPlain(2))
}

// R6: asking changes nothing: the same answers each time.
func TestAskingChangesNothing(t *testing.T) {
	s := dice(4)
	m := New(most)
	for _, x := range sightings(&s, most, 60) {
		see(t, m, x.r, x.v, api.OK)
		before := *m
		row, stable, cut := m.Row(x.r), m.Stable(), m.Cut(all(top))
		for range 3 {
			m.Cut(some(&s))
			m.Row(s.roll(most+4) - 2)
			same(t, "Row", m.Row(x.r), row)
			same(t, "Stable", m.Stable(), stable)
			same(t, "Cut", m.Cut(all(top)), cut)
		}
		if *m != before {
			t.Fatal("asking changed what is kept")
		}
	}
}

// Ways: rows are an array of arrays.
func TestWays(t *testing.T) {
	want := reflect.TypeFor[[most]api.VV]()
	m := reflect.TypeFor[Matrix]()
	for i := range m.NumField() {
		if m.Field(i).Type == want {
			return
		}
	}
	t.Errorf("a matrix has no array of arrays: %v", m)
}
