package vlq

import (
	"bytes"
	"math"
	"slices"
	"strings"
	"testing"

	"polyphony/api"
)

// someNumbers is numbers about every place where a number begins to take a byte more, and the ends.
func someNumbers() []uint64 {
	l := []uint64{0, 1, 2, 63, 64, 300, 12345, math.MaxInt64, math.MaxInt64 + 1, math.MaxUint64 - 1, math.MaxUint64}
	for bits := 7; bits < 64; bits += 7 {
		edge := uint64(1) << bits
		l = append(l, edge-1, edge, edge+1)
	}
	slices.Sort(l)
	return slices.Compact(l)
}

// someInts is numbers with a sign, about the places where one more byte begins, and the ends.
func someInts() []int {
	l := []int{0, 1, -1, 2, -2, math.MaxInt, math.MaxInt - 1, math.MinInt, math.MinInt + 1}
	for bits := 6; bits < 63; bits += 7 {
		edge := 1 << bits
		l = append(l, edge-1, edge, -edge, -edge-1)
	}
	return l
}

func many(n int, c string) string { return strings.Repeat(c, n) }

// P1.1: b, and the number's bytes behind.
func TestPut(t *testing.T) {
	for _, c := range []struct {
		b    string
		n    uint64
		want string
	}{
		{"", 0, "\x00"},
		{"", 1, "\x01"},
		{"", 127, "\x7f"},
		{"", 128, "\x81\x00"},
		{"", 300, "\x82\x2c"},
		{"", 16383, "\xff\x7f"},
		{"", 16384, "\x81\x80\x00"},
		{"", 1<<63 - 1, many(8, "\xff") + "\x7f"},
		{"", 1 << 63, "\x81" + many(8, "\x80") + "\x00"},
		{"", math.MaxUint64, "\x81" + many(8, "\xff") + "\x7f"},
		{"\x80\xffab", 300, "\x80\xffab\x82\x2c"},
	} {
		if got := Put([]byte(c.b), c.n); string(got) != c.want {
			t.Errorf("Put(%q, %d) = %q, want %q", c.b, c.n, got, c.want)
		}
	}
}

// P1.1: the number at a place, and each error, with every other result zero (R2).
func TestTake(t *testing.T) {
	for _, c := range []struct {
		name string
		b    string
		at   int
		n    uint64
		next int
		e    api.Errno
	}{
		{"zero", "\x00", 0, 0, 1, api.OK},
		{"one byte", "\x7f", 0, 127, 1, api.OK},
		{"two bytes, others behind", "\x82\x2c\x07", 0, 300, 2, api.OK},
		{"ahead of the place nothing matters", "\x80\x80\x82\x2c", 2, 300, 4, api.OK},
		{"from within a number", "\x82\x2c", 1, 44, 2, api.OK},
		{"a group of 0 within", "\x81\x80\x00", 0, 16384, 3, api.OK},
		{"the greatest", "\x81" + many(8, "\xff") + "\x7f", 0, math.MaxUint64, 10, api.OK},
		{"2^63", "\x81" + many(8, "\x80") + "\x00", 0, 1 << 63, 10, api.OK},

		{"below 0", "\x01", -1, 0, 0, api.ErrArg},
		{"the least place", "\x01", math.MinInt, 0, 0, api.ErrArg},
		{"above the end", "\x01", 2, 0, 0, api.ErrArg},
		{"the greatest place", "\x01", math.MaxInt, 0, 0, api.ErrArg},
		{"above the end of nothing", "", 1, 0, 0, api.ErrArg},

		{"nothing", "", 0, 0, 0, api.ErrShort},
		{"at the end", "\x01", 1, 0, 0, api.ErrShort},
		{"ends too early", "\x82", 0, 0, 0, api.ErrShort},
		{"ends too early, later", "\x01\x82\x80", 1, 0, 0, api.ErrShort},
		{"too early goes ahead of a first 128", "\x80", 0, 0, 0, api.ErrShort},
		{"too early goes ahead of too great", many(11, "\xff"), 0, 0, 0, api.ErrShort},

		{"a first 128", "\x80\x01", 0, 0, 0, api.ErrForm},
		{"0 in two bytes", "\x80\x00", 0, 0, 0, api.ErrForm},
		{"a first 128 at a place", "\x01\x80\x01", 1, 0, 0, api.ErrForm},
		{"a first 128 goes ahead of too great", "\x80" + many(11, "\xff") + "\x00", 0, 0, 0, api.ErrForm},

		{"2^64", "\x82" + many(8, "\x80") + "\x00", 0, 0, 0, api.ErrLong},
		{"ten bytes, all bits", many(9, "\xff") + "\x7f", 0, 0, 0, api.ErrLong},
		{"2^70", "\x81" + many(9, "\x80") + "\x00", 0, 0, 0, api.ErrLong},
		{"far too many bytes", "\x81" + many(1000, "\x80") + "\x00", 0, 0, 0, api.ErrLong},
	} {
		n, next, e := Take([]byte(c.b), c.at)
		if n != c.n || next != c.next || e != c.e {
			t.Errorf("%s: Take(%q, %d) = %d, %d, %d, want %d, %d, %d", c.name, c.b, c.at, n, next, e, c.n, c.next, c.e)
		}
	}
}

// P1.2: b, and the text's bytes behind.
func TestPutText(t *testing.T) {
	long := many(300, "x")
	for _, c := range []struct{ b, s, want string }{
		{"", "", "\x00"},
		{"", "ab", "\x02ab"},
		{"\x09", "ab", "\x09\x02ab"},
		{"", "\x00\x80\xff", "\x03\x00\x80\xff"},
		{"", long, "\x82\x2c" + long},
	} {
		if got := PutText([]byte(c.b), c.s); string(got) != c.want {
			t.Errorf("PutText(%q, %q) = %q, want %q", c.b, c.s, got, c.want)
		}
	}
}

// P1.2: the text at a place, and each error, with every other result zero (R2).
func TestTakeText(t *testing.T) {
	long := many(300, "x")
	greatest := "\x81" + many(8, "\xff") + "\x7f"
	for _, c := range []struct {
		name     string
		b        string
		at, most int
		s        string
		next     int
		e        api.Errno
	}{
		{"a text", "\x02abc", 0, 9, "ab", 3, api.OK},
		{"just as long as may be", "\x02abc", 0, 2, "ab", 3, api.OK},
		{"up to the end", "\x02ab", 0, 2, "ab", 3, api.OK},
		{"empty, and none else may be", "\x00abc", 0, 0, "", 1, api.OK},
		{"at a place", "\x07\x02abc", 1, 9, "ab", 4, api.OK},
		{"any bytes", "\x03\x00\x80\xff", 0, 9, "\x00\x80\xff", 4, api.OK},
		{"a length of two bytes", "\x82\x2c" + long, 0, math.MaxInt, long, 302, api.OK},

		{"most below 0", "\x00", 0, -1, "", 0, api.ErrArg},
		{"the least most", "\x00", 0, math.MinInt, "", 0, api.ErrArg},
		{"most below 0 goes ahead of all", "", 0, -1, "", 0, api.ErrArg},
		{"a place below 0", "\x00", -1, 9, "", 0, api.ErrArg},
		{"a place above the end", "\x00", 2, 9, "", 0, api.ErrArg},

		{"no length", "\x00", 1, 9, "", 0, api.ErrShort},
		{"a length that ends too early", "\x82", 0, 9, "", 0, api.ErrShort},
		{"a length with a first 128", "\x80\x01a", 0, 9, "", 0, api.ErrForm},
		{"a length of 2^64", "\x82" + many(8, "\x80") + "\x00", 0, 9, "", 0, api.ErrLong},

		{"too long", "\x02abc", 0, 1, "", 0, api.ErrLong},
		{"too long where none may be", "\x01a", 0, 0, "", 0, api.ErrLong},
		{"too long goes ahead of cut off", "\x05ab", 0, 4, "", 0, api.ErrLong},
		{"the greatest length", greatest + "ab", 0, math.MaxInt, "", 0, api.ErrLong},
		{"a length that is no int", "\x81" + many(8, "\x80") + "\x00", 0, math.MaxInt, "", 0, api.ErrLong},

		{"cut off", "\x02a", 0, 9, "", 0, api.ErrShort},
		{"cut off at once", "\x01", 0, 9, "", 0, api.ErrShort},
		{"cut off, the greatest int", many(8, "\xff") + "\x7fab", 0, math.MaxInt, "", 0, api.ErrShort},
		{"cut off, though enough stands ahead", "abcdef\x02a", 6, 9, "", 0, api.ErrShort},
	} {
		s, next, e := TakeText([]byte(c.b), c.at, c.most)
		if s != c.s || next != c.next || e != c.e {
			t.Errorf("%s: TakeText(%q, %d, %d) = %q, %d, %d, want %q, %d, %d", c.name, c.b, c.at, c.most, s, next, e, c.s, c.next, c.e)
		}
	}
}

// P1.2: a number with a sign goes as 2n or -2n - 1, and comes back.
func TestInts(t *testing.T) {
	for _, c := range []struct {
		n    int
		want string
	}{
		{0, "\x00"},
		{-1, "\x01"},
		{1, "\x02"},
		{-2, "\x03"},
		{63, "\x7e"},
		{-64, "\x7f"},
		{64, "\x81\x00"},
		{-65, "\x81\x01"},
		{math.MaxInt, "\x81" + many(8, "\xff") + "\x7e"},
		{math.MinInt, "\x81" + many(8, "\xff") + "\x7f"},
	} {
		if got := PutInt([]byte{9}, c.n); string(got) != "\x09"+c.want {
			t.Errorf("PutInt(9, %d) = %q, want %q behind", c.n, got, c.want)
		}
		n, next, e := TakeInt([]byte("\x80"+c.want+"\xff"), 1)
		if n != c.n || next != 1+len(c.want) || e != api.OK {
			t.Errorf("TakeInt(%q) = %d, %d, %d, want %d", c.want, n, next, e, c.n)
		}
	}
}

// P1.2: TakeInt has Take's errors, with every other result zero (R2).
func TestTakeIntErrors(t *testing.T) {
	for _, c := range []struct {
		b  string
		at int
		e  api.Errno
	}{
		{"\x01", -1, api.ErrArg},
		{"\x01", 2, api.ErrArg},
		{"\x01", 1, api.ErrShort},
		{"\x83", 0, api.ErrShort},
		{"\x80\x01", 0, api.ErrForm},
		{"\x82" + many(8, "\x80") + "\x01", 0, api.ErrLong},
	} {
		if n, next, e := TakeInt([]byte(c.b), c.at); n != 0 || next != 0 || e != c.e {
			t.Errorf("TakeInt(%q, %d) = %d, %d, %d, want 0, 0, %d", c.b, c.at, n, next, e, c.e)
		}
	}
}

// surroundings is what may stand ahead of, and behind, what was put.
func surroundings() []string {
	return []string{"", "\x00", "\x80", "\xff\xff", "\x7f\x81", "ab"}
}

// P1.3: what was put is taken as it was, whatever stands about it.
func TestNumbersComeBack(t *testing.T) {
	for _, ahead := range surroundings() {
		for _, behind := range surroundings() {
			for _, n := range someNumbers() {
				b := Put([]byte(ahead), n)
				got, next, e := Take(append(b, behind...), len(ahead))
				if got != n || next != len(b) || e != api.OK {
					t.Errorf("%d between %q and %q: %d, %d, %d", n, ahead, behind, got, next, e)
				}
			}
			for _, n := range someInts() {
				b := PutInt([]byte(ahead), n)
				got, next, e := TakeInt(append(b, behind...), len(ahead))
				if got != n || next != len(b) || e != api.OK {
					t.Errorf("int %d between %q and %q: %d, %d, %d", n, ahead, behind, got, next, e)
				}
			}
		}
	}
}

// P1.3, of texts.
func TestTextsComeBack(t *testing.T) {
	texts := []string{"", "a", "\x00", "\x80\x80", many(127, "y"), many(128, "\xff"), many(20000, "z")}
	for _, ahead := range surroundings() {
		for _, behind := range surroundings() {
			for _, s := range texts {
				b := PutText([]byte(ahead), s)
				got, next, e := TakeText(append(b, behind...), len(ahead), len(s))
				if got != s || next != len(b) || e != api.OK {
					t.Errorf("%d bytes between %q and %q: %d bytes, %d, %d", len(s), ahead, behind, len(got), next, e)
				}
			}
		}
	}
}

// everyShort calls f with each list of at most most of these bytes.
func everyShort(most int, of []byte, f func(b []byte)) {
	var grow func(b []byte)
	grow = func(b []byte) {
		f(slices.Clone(b))
		if len(b) == most {
			return
		}
		for _, c := range of {
			grow(append(b, c))
		}
	}
	grow(nil)
}

// P1.3: no other bytes are taken as what was put: all that is taken is just what would be put.
func TestOneWayEach(t *testing.T) {
	everyShort(5, []byte{0, 1, 2, 127, 128, 129, 255}, func(b []byte) {
		if n, next, e := Take(b, 0); e == api.OK && !bytes.Equal(Put(nil, n), b[:next]) {
			t.Errorf("%d is taken of %q", n, b[:next])
		}
		if n, next, e := TakeInt(b, 0); e == api.OK && !bytes.Equal(PutInt(nil, n), b[:next]) {
			t.Errorf("int %d is taken of %q", n, b[:next])
		}
		if s, next, e := TakeText(b, 0, 4); e == api.OK && !bytes.Equal(PutText(nil, s), b[:next]) {
			t.Errorf("text %q is taken of %q", s, b[:next])
		}
	})
}

// P1.3: no two numbers below 2^15 have the same bytes, and none is the beginning of another one's.
func TestBytesTellNumbersApart(t *testing.T) {
	for n := uint64(0); n < 1<<15; n++ {
		b := Put(nil, n)
		got, next, e := Take(b, 0)
		if got != n || next != len(b) || e != api.OK {
			t.Fatalf("%d: %q: %d, %d, %d", n, b, got, next, e)
		}
		for cut := range b {
			if _, _, e := Take(b[:cut], 0); e != api.ErrShort {
				t.Fatalf("%d, cut to %q: %d", n, b[:cut], e)
			}
		}
	}
}

// P1.3: the greater number's bytes stand behind, if both take as many; it never takes fewer.
func TestOrder(t *testing.T) {
	l := someNumbers()
	for i, n := range l {
		for _, m := range l[:i] {
			low, high := Put(nil, m), Put(nil, n)
			if len(low) > len(high) {
				t.Errorf("%d takes more bytes than %d", m, n)
			}
			if len(low) == len(high) && bytes.Compare(low, high) >= 0 {
				t.Errorf("%d: %q does not stand behind %d: %q", n, high, m, low)
			}
		}
	}
}

// puts is every call that puts something, with something short to put.
func puts() map[string]func(b []byte) []byte {
	return map[string]func(b []byte) []byte{
		"Put":           func(b []byte) []byte { return Put(b, 300) },
		"PutInt":        func(b []byte) []byte { return PutInt(b, -300) },
		"PutText":       func(b []byte) []byte { return PutText(b, "ab") },
		"PutText empty": func(b []byte) []byte { return PutText(b, "") },
	}
}

// R3: what is handed in is not changed, what lies behind its length is not written, and the answer is new memory.
func TestPutsShareNothing(t *testing.T) {
	for name, put := range puts() {
		memory := []byte("abcdefghijkl")
		given := memory[:3]
		got := put(given)
		if string(memory) != "abcdefghijkl" {
			t.Errorf("%s wrote %q", name, memory)
		}
		want := string(got)
		for i := range memory {
			memory[i] = '!'
		}
		if string(got) != want {
			t.Errorf("%s answered memory of its argument: %q became %q", name, want, got)
		}
		for i := range got[:cap(got)] {
			got[:cap(got)][i] = '?'
		}
		if string(memory) != many(12, "!") {
			t.Errorf("%s's answer reaches into its argument: %q", name, memory)
		}
	}
}

// R3: two answers from one beginning share nothing with each other.
func TestAnswersAreApart(t *testing.T) {
	for name, put := range puts() {
		base := put([]byte("x"))
		first := put(base)
		want := string(first)
		second := put(base)
		for i := range second {
			second[i] = '?'
		}
		if string(first) != want {
			t.Errorf("%s: one answer wrote into another: %q became %q", name, want, first)
		}
	}
}

// R3: a number or text is not read on behind the length of a list.
func TestNothingIsReadBehind(t *testing.T) {
	memory := []byte("\x82\x2c\x02ab")
	if n, next, e := Take(memory[:1], 0); n != 0 || next != 0 || e != api.ErrShort {
		t.Errorf("Take read on: %d, %d, %d", n, next, e)
	}
	if n, next, e := TakeInt(memory[:1], 0); n != 0 || next != 0 || e != api.ErrShort {
		t.Errorf("TakeInt read on: %d, %d, %d", n, next, e)
	}
	if s, next, e := TakeText(memory[:4], 2, 9); s != "" || next != 0 || e != api.ErrShort {
		t.Errorf("TakeText read on: %q, %d, %d", s, next, e)
	}
	if _, _, e := Take(memory[:1], 2); e != api.ErrArg {
		t.Errorf("Take at a place behind the length: %d", e)
	}
}

// R3: what is taken stays, and what it is taken of stays.
func TestTakesShareNothing(t *testing.T) {
	memory := []byte("\x02ab\x82\x2c")
	s, _, _ := TakeText(memory, 0, 9)
	Take(memory, 3)
	TakeInt(memory, 3)
	if string(memory) != "\x02ab\x82\x2c" {
		t.Errorf("taking changed the bytes: %q", memory)
	}
	memory[1] = '!'
	if s != "ab" {
		t.Errorf("the text changed with the bytes: %q", s)
	}
}

// R4: nil and empty are alike.
func TestNilAndEmpty(t *testing.T) {
	for name, put := range puts() {
		if a, b := put(nil), put([]byte{}); !bytes.Equal(a, b) {
			t.Errorf("%s: %q of nil, %q of empty", name, a, b)
		}
	}
	for _, b := range [][]byte{nil, {}} {
		if _, _, e := Take(b, 0); e != api.ErrShort {
			t.Errorf("Take of %#v: %d", b, e)
		}
		if _, _, e := TakeText(b, 0, 0); e != api.ErrShort {
			t.Errorf("TakeText of %#v: %d", b, e)
		}
		if _, _, e := TakeInt(b, 0); e != api.ErrShort {
			t.Errorf("TakeInt of %#v: %d", b, e)
		}
	}
}

// R1, R2 and R6: at whatever arguments, no call panics, each answer is zero beside an error, and the same again.
func TestWhateverIsGiven(t *testing.T) {
	ends := []int{math.MinInt, math.MinInt + 1, -2, -1, 0, 1, 2, 3, 4, 5, math.MaxInt - 1, math.MaxInt}
	everyShort(4, []byte{0, 1, 2, 127, 128, 129, 255}, func(b []byte) {
		for _, at := range ends {
			n, next, e := Take(b, at)
			if e != api.OK && (n != 0 || next != 0) {
				t.Errorf("Take(%q, %d) = %d, %d, %d", b, at, n, next, e)
			}
			if n2, next2, e2 := Take(b, at); n2 != n || next2 != next || e2 != e {
				t.Errorf("Take(%q, %d) differs the second time", b, at)
			}
			if i, next, e := TakeInt(b, at); e != api.OK && (i != 0 || next != 0) {
				t.Errorf("TakeInt(%q, %d) = %d, %d, %d", b, at, i, next, e)
			}
			for _, most := range ends {
				if s, next, e := TakeText(b, at, most); e != api.OK && (s != "" || next != 0) {
					t.Errorf("TakeText(%q, %d, %d) = %q, %d, %d", b, at, most, s, next, e)
				}
			}
		}
	})
}
