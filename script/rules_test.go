package script

import (
	"bytes"
	"math"
	"slices"
	"testing"

	"polyphony/api"
	"polyphony/cluster"
)

// R1: all calls end, and none panics, at whatever arguments.
func TestAnyArguments(t *testing.T) {
	s := dice(3)
	for range 300 {
		b := anyBytes(&s, s.roll(3*bound))
		n, l := Decode(b)
		if n < 1 || n > maxReplicas || len(l) > bound {
			t.Fatalf("Decode: %d, %d steps", n, len(l))
		}
		if len(b) > 600 {
			b = b[:600]
		}
		if l := Run(b); len(l) < 1 {
			t.Fatal("Run: nothing")
		}
	}
	for kind := range 256 {
		Run(repeat(2*bound, byte(kind)))
		Decode(repeat(2*bound, byte(kind)))
	}
	odd := []int{math.MinInt, -1, 0, 1, 12, 15, 16, 255, math.MaxInt}
	for _, a := range odd {
		for _, b := range odd {
			for kind := -1; kind <= 12; kind++ {
				Line(cluster.Step{Kind: kind, Node: a, N: b, At: a, Turn: b}, cluster.Answer{Err: api.Errno(b), N: a, Bytes: many(300, "\r\xff")})
				Line(cluster.Step{Kind: a, Node: b}, cluster.Answer{Err: api.Errno(kind), N: b})
			}
		}
	}
}

// R1: bytes that let much be done end soon, too.
func TestMuchToDo(t *testing.T) {
	push := says(0, "RPUSH l a")
	for _, b := range [][]byte{
		times(400, says(0, "INCRBY n 5")),
		times(400, says(0, "LPUSH l a")),
		join(times(150, push), times(1100, []byte{9, 0})),
		join(times(150, push), []byte{2, 0}, times(300, []byte{7, 0, 9, 0, 0, 0, 8, 0})),
		join([]byte{2, 0}, times(150, push), []byte{2, 0}, times(300, []byte{3, 1, 4, 0, 4, 0, 2, 1})),
		times(2100, []byte{3, 0}),
		join([]byte{3, 0}, times(2100, []byte{6, 0})),
	} {
		if l := Run(join([]byte{15}, b)); len(l) < 300 {
			t.Errorf("%d lines", len(l))
		}
	}
}

// R3: the bytes aren't changed, nor what lies behind their length; and that plays no part. What is told shares no memory.
func TestBytesStay(t *testing.T) {
	s := dice(9)
	for range 40 {
		first, l, _ := aScript(&s, 200)
		all := join([]byte{first}, slices.Concat(l...))
		for _, n := range []int{0, 1, 2, len(all) / 2, len(all) - 1, len(all)} {
			short := slices.Clone(all[:n])
			was := slices.Clone(all)
			a, steps := Decode(all[:n])
			b, want := Decode(short)
			if a != b || !slices.Equal(steps, want) || !slices.Equal(Run(all[:n]), Run(short)) {
				t.Fatalf("%q hangs on what is behind its length", short)
			}
			if !bytes.Equal(all, was) {
				t.Fatalf("%q was changed", was)
			}
			// What was told stays, whatever becomes of the bytes, and of what another call told.
			lines, again := Run(short), Run(short)
			_, other := Decode(short)
			for i := range again {
				again[i] = "x"
			}
			clear(other)
			clear(short)
			if _, l := Decode(was[:n]); !slices.Equal(steps, l) || !slices.Equal(want, l) || !slices.Equal(lines, Run(was[:n])) {
				t.Fatal("what was told has changed")
			}
		}
	}
}

// R6: the same bytes, the same lines, each time, whatever else is run.
func TestSameEachTime(t *testing.T) {
	s := dice(21)
	first, l, _ := aScript(&s, 3000)
	b := join([]byte{first}, slices.Concat(l...))
	lines := Run(b)
	for range 10 {
		Run(anyBytes(&s, 300))
		if again := Run(b); !slices.Equal(again, lines) {
			t.Fatal("not as it was the first time")
		}
	}
}
