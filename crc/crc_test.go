package crc

import (
	"bytes"
	"slices"
	"strings"
	"testing"
)

// plain is the check as the document's words tell it, in numbers wide enough that nothing is dropped unasked.
func plain(b []byte) uint16 {
	n := 0xffff
	for _, c := range b {
		n ^= int(c) * 256
		for i := 0; i < 8; i++ {
			n *= 2
			if n > 0xffff {
				n -= 0x10000
				n ^= 0x1021
			}
		}
	}
	return uint16(n)
}

// noise is bytes that look like no pattern, the same ones each time.
func noise(n int, seed uint32) []byte {
	b := make([]byte, n)
	for i := range b {
		seed = seed*1664525 + 1013904223
		b[i] = byte(seed >> 24)
	}
	return b
}

// bodies is bytes of all sorts: none, one, and many.
func bodies() [][]byte {
	l := [][]byte{
		nil,
		{},
		{0},
		{0xff},
		{0, 0},
		{0xff, 0xff},
		{0xff, 0xff, 0, 0},
		[]byte("123456789"),
		bytes.Repeat([]byte{0}, 40),
		bytes.Repeat([]byte{0xff}, 40),
	}
	for n := range 20 {
		l = append(l, noise(n, uint32(n)))
	}
	return append(l, noise(300, 1), noise(5000, 2))
}

// P2.1: the check, with the document's examples, and what is known of it elsewhere.
func TestOf(t *testing.T) {
	for _, c := range []struct {
		b    string
		want uint16
	}{
		{"123456789", 0x29b1},
		{"", 0xffff},
		{"\x00", 0xe1f0},
		{"\xff", 0xff00},
		{"\x00\x00", 0x1d0f},
		{"\xff\xff", 0x0000},
		{"\xff\xff\x00\x00", 0x0000},
		{"A", 0xb915},
		{strings.Repeat("A", 256), 0xea0b},
	} {
		if got := Of([]byte(c.b)); got != c.want {
			t.Errorf("Of(%q) = %04x, want %04x", c.b, got, c.want)
		}
	}
}

// P2.1: the check is what the words say, at each byte, each two bytes, and at longer ones.
func TestOfIsTheCheck(t *testing.T) {
	for n := range 1 << 16 {
		two := []byte{byte(n >> 8), byte(n)}
		if got, want := Of(two), plain(two); got != want {
			t.Fatalf("Of(%x) = %04x, want %04x", two, got, want)
		}
	}
	for n := range 256 {
		one := []byte{byte(n)}
		if got, want := Of(one), plain(one); got != want {
			t.Errorf("Of(%x) = %04x, want %04x", one, got, want)
		}
	}
	for _, b := range bodies() {
		if got, want := Of(b), plain(b); got != want {
			t.Errorf("Of(%d bytes, %.20x) = %04x, want %04x", len(b), b, got, want)
		}
	}
}

// P2.1: bytes with their check behind, its highest byte first.
func TestSeal(t *testing.T) {
	for _, c := range []struct{ b, want string }{
		{"123456789", "123456789\x29\xb1"},
		{"", "\xff\xff"},
		{"\x00", "\x00\xe1\xf0"},
		{"\xff", "\xff\xff\x00"},
		{"\xff\xff", "\xff\xff\x00\x00"},
		{"A", "A\xb9\x15"},
	} {
		if got := Seal([]byte(c.b)); string(got) != c.want {
			t.Errorf("Seal(%q) = %q, want %q", c.b, got, c.want)
		}
	}
	for _, b := range bodies() {
		n := plain(b)
		want := string(b) + string([]byte{byte(n >> 8), byte(n)})
		if got := Seal(b); string(got) != want {
			t.Errorf("Seal(%d bytes, %.20x) = %.20x", len(b), b, got)
		}
	}
}

// P2.1: sealed bytes are opened; no others, and beside false there are no bytes (R2).
func TestOpen(t *testing.T) {
	for _, c := range []struct {
		name string
		b    string
		want string
		ok   bool
	}{
		{"the example", "123456789\x29\xb1", "123456789", true},
		{"just a check", "\xff\xff", "", true},
		{"one byte, sealed", "\x00\xe1\xf0", "\x00", true},
		{"a check of 0", "\xff\xff\x00\x00", "\xff\xff", true},
		{"sealed twice, opened once", "\xff\xff\x00\x00\x00\x00", "\xff\xff\x00\x00", true},
		{"a byte 0 behind: sealed too", "123456789\x29\xb1\x00", "123456789\x29", true},

		{"nothing", "", "", false},
		{"one byte", "\xff", "", false},
		{"one byte 0", "\x00", "", false},
		{"just a wrong check", "\x00\x00", "", false},
		{"just a check, its last byte wrong", "\xff\xfe", "", false},
		{"just a check, its first byte wrong", "\xfe\xff", "", false},
		{"the lowest byte first", "123456789\xb1\x29", "", false},
		{"no check", "123456789", "", false},
		{"a byte behind", "123456789\x29\xb1\x01", "", false},
		{"a byte ahead", "\x00123456789\x29\xb1", "", false},
		{"two bytes changed about", "213456789\x29\xb1", "", false},
		{"the check's first byte wrong", "123456789\x28\xb1", "", false},
		{"the check's last byte wrong", "123456789\x29\xb0", "", false},
	} {
		got, ok := Open([]byte(c.b))
		if string(got) != c.want || ok != c.ok {
			t.Errorf("%s: Open(%q) = %q, %t, want %q, %t", c.name, c.b, got, ok, c.want, c.ok)
		}
	}
}

// P2.1: what was sealed is opened as it was, however often it was sealed.
func TestSealedBytesComeBack(t *testing.T) {
	for _, b := range bodies() {
		if got, ok := Open(Seal(b)); !bytes.Equal(got, b) || !ok {
			t.Errorf("Open(Seal(%d bytes, %.20x)) = %.20x, %t", len(b), b, got, ok)
		}
		twice, ok := Open(Seal(Seal(b)))
		if once, ok2 := Open(twice); !bytes.Equal(once, b) || !ok || !ok2 {
			t.Errorf("%d bytes, %.20x, sealed twice: %.20x", len(b), b, once)
		}
	}
}

// P2.1: of all checks behind bytes just one opens them.
func TestOneCheckOpens(t *testing.T) {
	for _, b := range []string{"", "a", "123456789"} {
		opened := 0
		for n := range 1 << 16 {
			got, ok := Open(append([]byte(b), byte(n>>8), byte(n)))
			if ok {
				opened++
			}
			if ok && (string(got) != b || uint16(n) != plain([]byte(b))) {
				t.Errorf("%q is opened by %04x, as %q", b, n, got)
			}
			if !ok && len(got) != 0 {
				t.Errorf("%q isn't opened by %04x, but there is %q", b, n, got)
			}
		}
		if opened != 1 {
			t.Errorf("%q is opened by %d checks", b, opened)
		}
	}
}

// P2.1: sealed bytes that are cut off aren't opened. (ff ff 00 00 cut to ff ff would be: just these bytes have no sealed beginning or end.)
func TestCutOff(t *testing.T) {
	for _, b := range []string{"123456789", "a", "", "polyphony, a store"} {
		s := Seal([]byte(b))
		for cut := range s {
			if got, ok := Open(s[:cut]); ok || len(got) != 0 {
				t.Errorf("%q, cut to %d bytes, is opened: %q", s, cut, got)
			}
			if got, ok := Open(s[cut+1:]); ok || len(got) != 0 {
				t.Errorf("%q without its first %d bytes is opened: %q", s, cut+1, got)
			}
		}
	}
}

// turn turns the bits of a pattern of 16, its highest bit at a place; false if a bit of it falls behind the end.
func turn(b []byte, at int, pattern uint16) bool {
	for i := range 16 {
		if pattern&(1<<(15-i)) == 0 {
			continue
		}
		bit := at + i
		if bit >= 8*len(b) {
			return false
		}
		b[bit/8] ^= 0x80 >> (bit % 8)
	}
	return true
}

// tryTurned tells a fault if sealed bytes with a pattern turned at a place are opened.
func tryTurned(t *testing.T, s []byte, at int, pattern uint16) {
	turned := slices.Clone(s)
	if !turn(turned, at, pattern) {
		return
	}
	if got, ok := Open(turned); ok || len(got) != 0 {
		t.Errorf("%.20x with %04x turned at bit %d is opened: %.20x", s, pattern, at, got)
	}
}

// P2.2: every pattern of turned bits, at every place of short bytes: within a byte, over the border of two and three, and over the check.
func TestTurnedBits(t *testing.T) {
	for _, b := range []string{"", "\x00", "ab", "\xff\xff", "12345"} {
		s := Seal([]byte(b))
		for at := range 8 * len(s) {
			for pattern := 1 << 15; pattern < 1<<16; pattern++ {
				tryTurned(t, s, at, uint16(pattern))
			}
		}
	}
}

// P2.2: of longer bytes, every place, and patterns of all lengths.
func TestTurnedBitsOfMany(t *testing.T) {
	patterns := []uint16{0x8000, 0xc000, 0x8001, 0xffff, 0xff00, 0xaaaa, 0x8810, 0x8811, 0xa5a5, 0x8408, 0x9021}
	for _, n := range []int{9, 100, 1000} {
		s := Seal(noise(n, 7))
		for at := range 8 * len(s) {
			for _, p := range patterns {
				tryTurned(t, s, at, p)
			}
		}
	}
}

// P2.2 ends at 16: the 17 bits of the check's own number, turned side by side, aren't seen.
func TestSeventeenBits(t *testing.T) {
	s := Seal([]byte("123456789"))
	s[0] ^= 0x88
	s[1] ^= 0x10
	s[2] ^= 0x80
	if _, ok := Open(s); !ok {
		t.Error("11021, turned from the highest bit on, is seen")
	}
}

// xored is bytes xored, byte by byte, with as many others.
func xored(a, b []byte) []byte {
	out := make([]byte, len(a))
	for i := range out {
		out[i] = a[i] ^ b[i]
	}
	return out
}

// P2.3: the check of bytes xored with others is told by the checks of both and of as many bytes 0.
func TestXored(t *testing.T) {
	for _, n := range []int{0, 1, 2, 3, 9, 16, 255, 256, 4096} {
		zeros := make([]byte, n)
		some := [][]byte{zeros, bytes.Repeat([]byte{0xff}, n), bytes.Repeat([]byte{0x80}, n), noise(n, 3), noise(n, 4)}
		for _, a := range some {
			for _, b := range some {
				want := Of(a) ^ Of(b) ^ Of(zeros)
				if got := Of(xored(a, b)); got != want {
					t.Errorf("%d bytes, %.20x xored with %.20x: %04x, want %04x", n, a, b, got, want)
				}
			}
		}
	}
}

// P2.3, of every two bytes that differ from some.
func TestXoredWithEach(t *testing.T) {
	some := []byte{0x5a, 0xc3}
	rest := Of(some) ^ Of([]byte{0, 0})
	for n := range 1 << 16 {
		other := []byte{byte(n >> 8), byte(n)}
		if got, want := Of(xored(some, other)), Of(other)^rest; got != want {
			t.Fatalf("%x xored with %x: %04x, want %04x", some, other, got, want)
		}
	}
}

// fill puts one byte into all memory of a list, behind its length too.
func fill(b []byte, c byte) {
	b = b[:cap(b)]
	for i := range b {
		b[i] = c
	}
}

// R3: Seal changes nothing, writes nothing behind the length, and answers new memory.
func TestSealSharesNothing(t *testing.T) {
	for n := range 10 {
		memory := []byte("abcdefghijkl")
		got := Seal(memory[:n])
		if string(memory) != "abcdefghijkl" {
			t.Errorf("Seal of %d bytes wrote %q", n, memory)
		}
		want := string(got)
		fill(memory, '!')
		if string(got) != want {
			t.Errorf("Seal of %d bytes answered memory of its argument: %q became %q", n, want, got)
		}
		fill(got, '?')
		if string(memory) != strings.Repeat("!", 12) {
			t.Errorf("what Seal answered of %d bytes reaches into its argument: %q", n, memory)
		}
	}
}

// R3: Open changes nothing, and answers new memory; the bytes of the check behind the answer aren't the argument's, either.
func TestOpenSharesNothing(t *testing.T) {
	for _, b := range []string{"", "a", "123456789"} {
		s := Seal([]byte(b))
		memory := append(slices.Clone(s), "behind"...)
		before := string(memory)
		got, ok := Open(memory[:len(s)])
		if string(memory) != before {
			t.Errorf("Open of %q wrote %q", s, memory)
		}
		fill(memory, '!')
		if string(got) != b || !ok {
			t.Errorf("Open of %q answered memory of its argument: %q", s, got)
		}
		fill(got, '?')
		if string(memory) != strings.Repeat("!", len(memory)) {
			t.Errorf("what Open answered of %q reaches into its argument: %q", s, memory)
		}
	}
}

// R3: what lies behind a list's length is not read.
func TestNothingIsReadBehind(t *testing.T) {
	s := Seal([]byte("123456789"))
	for n := range s {
		apart := slices.Clone(s[:n])
		if got, want := Of(s[:n]), Of(apart); got != want {
			t.Errorf("Of read on behind %q: %04x, want %04x", apart, got, want)
		}
		if got, want := Seal(s[:n]), Seal(apart); !bytes.Equal(got, want) {
			t.Errorf("Seal read on behind %q: %q, want %q", apart, got, want)
		}
		if got, ok := Open(s[:n]); ok {
			t.Errorf("Open read on behind %q: %q", apart, got)
		}
	}
	just := []byte{0xff, 0xff}
	for n := range just {
		if _, ok := Open(just[:n]); ok {
			t.Errorf("Open of %d bytes read the check behind", n)
		}
	}
}

// R3 and R6: asked again of the same bytes, each call answers the same, in memory of its own.
func TestAnswersAreApart(t *testing.T) {
	b := []byte("123456789")
	first, second := Seal(b), Seal(b)
	if !bytes.Equal(first, second) || Of(b) != Of(b) {
		t.Error("the second answer differs")
	}
	in, ok := Open(first)
	in2, ok2 := Open(first)
	if !bytes.Equal(in, in2) || ok != ok2 {
		t.Error("the second opening differs")
	}
	fill(second, '?')
	fill(in2, '?')
	if string(first) != "123456789\x29\xb1" || string(in) != "123456789" {
		t.Errorf("one answer wrote into another: %q, %q", first, in)
	}
}

// R4: nil and empty are alike.
func TestNilAndEmpty(t *testing.T) {
	for _, b := range [][]byte{nil, {}} {
		if n := Of(b); n != 0xffff {
			t.Errorf("Of(%#v) = %04x", b, n)
		}
		if s := Seal(b); string(s) != "\xff\xff" {
			t.Errorf("Seal(%#v) = %q", b, s)
		}
		if in, ok := Open(b); len(in) != 0 || ok {
			t.Errorf("Open(%#v) = %q, %t", b, in, ok)
		}
	}
}
