package disk

import (
	"bytes"
	"math"
	"math/big"
	"strings"
	"testing"

	"polyphony/api"
)

// top is the greatest room, as the document says it.
const top = 65536

// noise is bytes that look like no pattern, the same ones each time.
func noise(n int, seed uint32) []byte {
	b := make([]byte, n)
	for i := range b {
		seed = seed*1664525 + 1013904223
		b[i] = byte(seed >> 24)
	}
	return b
}

// is holds all that a disk tells against what it shall be.
func is(t *testing.T, what string, d *Disk, file string, fast, room int) {
	t.Helper()
	if got := d.Bytes(); string(got) != file {
		t.Errorf("%s: %d bytes, %.20x, not %d, %.20x", what, len(got), got, len(file), file)
	}
	if d.Fast() != fast || d.Room() != room {
		t.Errorf("%s: fast %d, room %d, not %d, %d", what, d.Fast(), d.Room(), fast, room)
	}
}

// answers holds an error's number against what it shall be.
func answers(t *testing.T, what string, got, want api.Errno) {
	t.Helper()
	if got != want {
		t.Errorf("%s: %d, not %d", what, got, want)
	}
}

// holding is a disk with fast bytes and, behind them, others that aren't, and room for some more.
func holding(t *testing.T, fast, behind string, more int) *Disk {
	t.Helper()
	d := New(len(fast) + len(behind) + more)
	answers(t, "the fast ones", d.Append([]byte(fast)), api.OK)
	d.Sync()
	answers(t, "those behind", d.Append([]byte(behind)), api.OK)
	is(t, "a disk as it is made", d, fast+behind, len(fast), len(fast)+len(behind)+more)
	return d
}

// modulo is a remainder from 0 on, told by numbers that know no other.
func modulo(n, m int) int {
	return int(new(big.Int).Mod(big.NewInt(int64(n)), big.NewInt(int64(m))).Int64())
}

// turned is bytes of which sixteen bits are turned, by P7.2's words: all bytes are one number, its highest bit the first one.
func turned(b string, at, turn int) string {
	if len(b) < 2 {
		return b
	}
	all := new(big.Int).SetBytes([]byte(b))
	bits := big.NewInt(int64(modulo(turn, 65536)))
	bits.Lsh(bits, uint(8*len(b)-16-modulo(at, 8*len(b)-15)))
	return string(all.Xor(all, bits).FillBytes(make([]byte, len(b))))
}

// crashed is what a crash shall leave of a disk.
func crashed(fast, behind string, keep, at, turn int) string {
	switch {
	case keep < 0:
		keep = 0
	case keep > len(behind):
		keep = len(behind)
	}
	return fast + turned(behind[:keep], at, turn)
}

// crashes holds one crash of a new disk against what it shall leave.
func crashes(t *testing.T, fast, behind string, keep, at, turn int, want string) {
	t.Helper()
	d := holding(t, fast, behind, 3)
	d.Crash(keep, at, turn)
	if got := d.Bytes(); string(got) != want || d.Fast() != len(want) || d.Room() != len(fast)+len(behind)+3 {
		t.Errorf("of %x %x Crash(%d, %d, %d): %x, fast %d, room %d, not %x, all fast",
			fast, behind, keep, at, turn, got, d.Fast(), d.Room(), want)
	}
}

// P7.1, P7.2: the document's example, step by step.
func TestExample(t *testing.T) {
	d := New(9)
	is(t, "New", d, "", 0, 9)
	answers(t, "Append", d.Append([]byte{1, 2}), api.OK)
	is(t, "Append", d, "\x01\x02", 0, 9)
	d.Sync()
	is(t, "Sync", d, "\x01\x02", 2, 9)
	answers(t, "Append", d.Append([]byte{3, 4, 5}), api.OK)
	is(t, "Append", d, "\x01\x02\x03\x04\x05", 2, 9)
	d.Crash(2, 0, 32768)
	is(t, "Crash", d, "\x01\x02\x83\x04", 4, 9)
}

// P7.1: the room is held from 0 to MaxFile.
func TestNew(t *testing.T) {
	for _, c := range []struct{ room, want int }{
		{0, 0}, {1, 1}, {9, 9}, {4096, 4096}, {top - 1, top - 1}, {top, top},
		{top + 1, top}, {top + 2, top}, {2 * top, top}, {1 << 32, top}, {math.MaxInt, top}, {math.MaxInt - 1, top},
		{-1, 0}, {-2, 0}, {-top, 0}, {-1 << 32, 0}, {math.MinInt + 1, 0}, {math.MinInt, 0},
	} {
		d := New(c.room)
		if d == nil {
			t.Fatalf("New(%d): nil", c.room)
		}
		is(t, "New", d, "", 0, c.want)
		answers(t, "just so much", d.Append(make([]byte, c.want)), api.OK)
		answers(t, "a byte more", d.Append(make([]byte, 1)), api.ErrFull)
		is(t, "full", d, string(make([]byte, c.want)), 0, c.want)
		answers(t, "Replace by a byte more", d.Replace(make([]byte, c.want+1)), api.ErrFull)
		is(t, "still full", d, string(make([]byte, c.want)), 0, c.want)
	}
}

// P7.1: appended bytes stand behind the others, and aren't fast.
func TestAppend(t *testing.T) {
	d := New(top)
	all := ""
	for i, n := range []int{1, 0, 2, 3, 255, 0, 256, 1, 4096, 7} {
		b := noise(n, uint32(i))
		answers(t, "Append", d.Append(b), api.OK)
		all += string(b)
		is(t, "Append", d, all, 0, top)
	}
	d.Sync()
	fast := len(all)
	answers(t, "behind Sync", d.Append([]byte("ab")), api.OK)
	is(t, "behind Sync", d, all+"ab", fast, top)
	answers(t, "of none", d.Append(nil), api.OK)
	answers(t, "of none", d.Append([]byte{}), api.OK)
	is(t, "of none", d, all+"ab", fast, top)
}

// P7.1: bytes fill the room just so, or are refused as wholes, and then nothing is changed (R2).
func TestAppendRoom(t *testing.T) {
	for _, room := range []int{0, 1, 2, 9, 255, 256, top - 1, top} {
		for _, had := range []int{0, 1, room / 2, room - 1, room} {
			if had < 0 || had > room {
				continue
			}
			file := string(noise(had, 1))
			for _, fast := range []bool{false, true} {
				d := New(room)
				answers(t, "the first ones", d.Append([]byte(file)), api.OK)
				n := 0
				if fast {
					d.Sync()
					n = had
				}
				for _, more := range []int{1, 2, room + 1, top, top + 1, 2 * top} {
					answers(t, "too many", d.Append(make([]byte, room-had+more)), api.ErrFull)
					is(t, "too many", d, file, n, room)
				}
				rest := string(noise(room-had, 2))
				answers(t, "just so", d.Append([]byte(rest)), api.OK)
				is(t, "just so", d, file+rest, n, room)
				answers(t, "none on a full one", d.Append(nil), api.OK)
				answers(t, "one on a full one", d.Append([]byte{7}), api.ErrFull)
				is(t, "full", d, file+rest, n, room)
			}
		}
	}
}

// P7.1: all bytes are fast behind Sync, those that come then aren't.
func TestSync(t *testing.T) {
	d := New(99)
	d.Sync()
	is(t, "of none", d, "", 0, 99)
	all := ""
	for _, s := range []string{"a", "bc", "", "def"} {
		fast := len(all)
		all += s
		answers(t, "Append", d.Append([]byte(s)), api.OK)
		is(t, "ahead of Sync", d, all, fast, 99)
		d.Sync()
		is(t, "behind Sync", d, all, len(all), 99)
		d.Sync()
		is(t, "twice", d, all, len(all), 99)
	}
	answers(t, "two in a row", d.Append([]byte("gh")), api.OK)
	answers(t, "two in a row", d.Append([]byte("i")), api.OK)
	is(t, "two in a row", d, all+"ghi", len(all), 99)
	d.Sync()
	is(t, "both", d, all+"ghi", len(all)+3, 99)
}

// P7.1: a disk is replaced as a whole by other bytes, which are fast.
func TestReplace(t *testing.T) {
	for _, was := range []struct{ fast, behind string }{{"", ""}, {"abc", ""}, {"", "abc"}, {"ab", "cdef"}} {
		for _, b := range []string{"", "x", "xy", "abc", "\x00\xff\x00\xff", "longer than it was"} {
			d := holding(t, was.fast, was.behind, 20)
			room := d.Room()
			answers(t, "Replace", d.Replace([]byte(b)), api.OK)
			is(t, "Replace", d, b, len(b), room)
			answers(t, "Append", d.Append([]byte("+-")), api.OK)
			is(t, "Append", d, b+"+-", len(b), room)
			d.Crash(0, 0, 0)
			is(t, "Crash", d, b, len(b), room)
		}
	}
}

// P7.1: what replaces a disk's bytes may fill its room just so, whatever it had; what doesn't go in changes nothing (R2).
func TestReplaceRoom(t *testing.T) {
	for _, room := range []int{0, 1, 2, 9, 255, 256, top - 1, top} {
		had := string(noise(room, 1))
		for _, more := range []int{1, 2, room + 1, top, top + 1} {
			d := New(room)
			answers(t, "filled", d.Append([]byte(had)), api.OK)
			answers(t, "too many", d.Replace(make([]byte, room+more)), api.ErrFull)
			is(t, "too many", d, had, 0, room)
			d.Sync()
			answers(t, "too many", d.Replace(make([]byte, room+more)), api.ErrFull)
			is(t, "too many", d, had, room, room)
		}
		d := New(room)
		answers(t, "filled", d.Append([]byte(had)), api.OK)
		other := string(noise(room, 2))
		answers(t, "just so", d.Replace([]byte(other)), api.OK)
		is(t, "just so", d, other, room, room)
		answers(t, "by none", d.Replace(nil), api.OK)
		is(t, "by none", d, "", 0, room)
		answers(t, "filled anew", d.Append([]byte(had)), api.OK)
		is(t, "filled anew", d, had, 0, room)
		answers(t, "by no bytes", d.Replace([]byte{}), api.OK)
		is(t, "by no bytes", d, "", 0, room)
	}
}

// P7.1: at each number of bytes the first ones are kept, and are fast, whether they were or not.
func TestCut(t *testing.T) {
	for _, was := range []struct{ fast, behind string }{{"", ""}, {"abc", ""}, {"", "abc"}, {"ab", "cdef"}, {"abcd", "e"}} {
		all := was.fast + was.behind
		for n := range len(all) + 1 {
			d := holding(t, was.fast, was.behind, 2)
			answers(t, "Cut", d.Cut(n), api.OK)
			is(t, "Cut", d, all[:n], n, len(all)+2)
			answers(t, "Append", d.Append([]byte("+-")), api.OK)
			is(t, "Append", d, all[:n]+"+-", n, len(all)+2)
		}
	}
}

// P7.1: what is no number of its bytes cuts nothing, and lets nothing be fast (R2).
func TestCutArg(t *testing.T) {
	for _, was := range []struct{ fast, behind string }{{"", ""}, {"abc", ""}, {"", "abc"}, {"ab", "cdef"}} {
		all := was.fast + was.behind
		for _, n := range []int{-1, -2, -len(all) - 1, math.MinInt, math.MinInt + 1,
			len(all) + 1, len(all) + 2, len(all) + 9, top, 1 << 32, math.MaxInt - 1, math.MaxInt} {
			d := holding(t, was.fast, was.behind, 9)
			answers(t, "Cut", d.Cut(n), api.ErrArg)
			is(t, "Cut", d, all, len(was.fast), len(all)+9)
		}
	}
}

// P7.1: what was cut off, lost or replaced is no byte any more: it can't be cut to, and its room is free.
func TestNoneBehind(t *testing.T) {
	d := holding(t, "abc", "def", 0)
	answers(t, "Cut", d.Cut(4), api.OK)
	answers(t, "Cut to what was cut off", d.Cut(5), api.ErrArg)
	answers(t, "Append", d.Append([]byte("xy")), api.OK)
	answers(t, "no room", d.Append([]byte("z")), api.ErrFull)
	is(t, "Append", d, "abcdxy", 4, 6)
	d.Crash(1, 0, 0)
	answers(t, "Cut to what was lost", d.Cut(6), api.ErrArg)
	is(t, "Crash", d, "abcdx", 5, 6)
	answers(t, "Append", d.Append([]byte("z")), api.OK)
	is(t, "Append", d, "abcdxz", 5, 6)
	answers(t, "Replace", d.Replace([]byte("1")), api.OK)
	answers(t, "Cut to what was replaced", d.Cut(2), api.ErrArg)
	is(t, "Replace", d, "1", 1, 6)
	answers(t, "Append", d.Append([]byte("23456")), api.OK)
	is(t, "Append", d, "123456", 1, 6)
}

// P7.2: how many bytes are kept, when no bit is turned.
func TestCrashKeep(t *testing.T) {
	for _, fast := range []string{"", "a", "abc"} {
		for _, behind := range []string{"", "1", "12", "123", "1234567"} {
			for keep := range len(behind) + 1 {
				crashes(t, fast, behind, keep, 0, 0, fast+behind[:keep])
			}
			for _, keep := range []int{-1, -2, -len(behind), math.MinInt, math.MinInt + 1} {
				crashes(t, fast, behind, min(keep, -1), 0, 65535, fast)
			}
			for _, keep := range []int{1, 2, 9, top, 1 << 32, math.MaxInt - 1, math.MaxInt} {
				crashes(t, fast, behind, max(keep, len(behind)+1), 0, 0, fast+behind)
			}
		}
	}
}

// P7.2: of fewer than two bytes that are kept no bit is turned.
func TestCrashOfFew(t *testing.T) {
	for _, at := range []int{0, 1, 7, -1, math.MinInt, math.MaxInt} {
		for _, turn := range []int{0, 1, 32768, 65535, -1, math.MinInt, math.MaxInt} {
			for _, behind := range []string{"\x55", "\x55\xaa", "\x55\xaa\x0f"} {
				crashes(t, "fast", behind, -1, at, turn, "fast")
				crashes(t, "fast", behind, 0, at, turn, "fast")
				crashes(t, "fast", behind, 1, at, turn, "fast\x55")
			}
			crashes(t, "fast", "", 2, at, turn, "fast")
			crashes(t, "fast", "\x55", 2, at, turn, "fast\x55")
			crashes(t, "", "\x55", math.MaxInt, at, turn, "\x55")
			crashes(t, "", "", math.MaxInt, at, turn, "")
		}
	}
}

// P7.2: bits by hand: the highest bit of the number stands for the first one, and each byte's bits count from its highest on.
func TestCrashBits(t *testing.T) {
	zero := "\x00\x00\x00"
	for _, c := range []struct {
		behind         string
		keep, at, turn int
		want           string
	}{
		{zero, 2, 0, 32768, "\x80\x00"},
		{zero, 2, 0, 1, "\x00\x01"},
		{zero, 2, 0, 0x1234, "\x12\x34"},
		{zero, 2, 0, 65535, "\xff\xff"},
		{zero, 2, 0, 65536, "\x00\x00"},
		{zero, 2, 0, 65537, "\x00\x01"},
		{zero, 2, 0, -1, "\xff\xff"},
		{zero, 2, 0, -2, "\xff\xfe"},
		{zero, 2, 0, -65535, "\x00\x01"},
		{zero, 2, 0, -65536, "\x00\x00"},
		{zero, 2, 0, -65537, "\xff\xff"},
		{zero, 2, 1, 32768, "\x80\x00"},
		{zero, 2, -1, 32768, "\x80\x00"},
		{zero, 2, math.MinInt, 0x1234, "\x12\x34"},
		{zero, 2, math.MaxInt, 0x1234, "\x12\x34"},
		{zero, 3, 0, 32768, "\x80\x00\x00"},
		{zero, 3, 1, 32768, "\x40\x00\x00"},
		{zero, 3, 7, 32768, "\x01\x00\x00"},
		{zero, 3, 8, 32768, "\x00\x80\x00"},
		{zero, 3, 8, 1, "\x00\x00\x01"},
		{zero, 3, 9, 1, "\x00\x01\x00"},
		{zero, 3, 10, 1, "\x00\x00\x80"},
		{zero, 3, -1, 1, "\x00\x00\x01"},
		{zero, 3, -8, 1, "\x00\x00\x80"},
		{zero, 3, -9, 1, "\x00\x01\x00"},
		{zero, 3, -10, 1, "\x00\x00\x01"},
		{zero, 3, 4, 65535, "\x0f\xff\xf0"},
		{zero, 9, 4, 0x8001, "\x08\x00\x10"},
		{zero, 3, 3, 0x8811, "\x11\x02\x20"},
		{"\xff\xff\xff", 3, 4, 65535, "\xf0\x00\x0f"},
		{"\x55\xaa\x0f", 3, 0, 65535, "\xaa\x55\x0f"},
		{"\x55\xaa\x0f", 2, 8, 65535, "\xaa\x55"},
	} {
		crashes(t, "", c.behind, c.keep, c.at, c.turn, c.want)
		crashes(t, "\xa5", c.behind, c.keep, c.at, c.turn, "\xa5"+c.want)
	}
}

// P7.2: each pattern at the first and the last place, and at those between.
func TestCrashPatterns(t *testing.T) {
	for turn := range 65536 {
		for _, at := range []int{0, 1, 5, 7, 8} {
			want := turned("\x96\x0f\x3c", at, turn)
			d := New(4)
			d.Append([]byte{0x11})
			d.Sync()
			d.Append([]byte{0x96, 0x0f, 0x3c})
			d.Crash(3, at, turn)
			if string(d.Bytes()) != "\x11"+want || d.Fast() != 4 {
				t.Fatalf("Crash(3, %d, %d): %x, not 11%x", at, turn, d.Bytes(), want)
			}
		}
	}
}

// P7.2: each place among bytes of all numbers, with those from which the remainder is taken.
func TestCrashPlaces(t *testing.T) {
	for _, n := range []int{2, 3, 4, 5, 16, 33} {
		behind := string(noise(n+2, uint32(n)))
		places := 8*n - 15
		for at := -2 * places; at <= 2*places; at++ {
			for _, turn := range []int{32768, 1, 65535, 0x8811} {
				crashes(t, "ahead", behind, n, at, turn, crashed("ahead", behind, n, at, turn))
			}
		}
		for _, at := range []int{math.MinInt, math.MinInt + 1, math.MinInt + 15, math.MaxInt - 1, math.MaxInt, 1 << 32, -1 << 32} {
			for _, turn := range []int{math.MinInt, math.MinInt + 1, math.MaxInt, math.MaxInt - 1, -32768, 1<<32 + 77, -1<<32 - 77} {
				crashes(t, "ahead", behind, n, at, turn, crashed("ahead", behind, n, at, turn))
			}
		}
	}
}

// P7.2: of a whole disk's bytes the first and the last bit are turned.
func TestCrashOfTheGreatest(t *testing.T) {
	last := 8*top - 16
	for _, c := range []struct{ at, turn, at2, bit int }{
		{0, 32768, 0, 0x80}, {last, 1, top - 1, 1}, {-1, 1, top - 1, 1}, {last + 1, 32768, 0, 0x80},
		{last - 1, 1, top - 1, 2}, {8 * 32768, 0x0100, 32768, 1},
	} {
		want := noise(top, 3)
		d := New(top)
		answers(t, "Append", d.Append(want), api.OK)
		d.Crash(top, c.at, c.turn)
		want[c.at2] ^= byte(c.bit)
		is(t, "Crash", d, string(want), top, top)
	}
}

// P7.2: behind a crash all is fast, so the next one does nothing, and one with bytes behind it begins there.
func TestCrashTwice(t *testing.T) {
	d := holding(t, "ab", "cdef", 4)
	d.Crash(3, 0, 32768)
	is(t, "the first one", d, "ab\xe3de", 5, 10)
	d.Crash(3, 0, 65535)
	is(t, "the second one", d, "ab\xe3de", 5, 10)
	d.Crash(-1, 0, 65535)
	is(t, "the third one", d, "ab\xe3de", 5, 10)
	answers(t, "Append", d.Append([]byte("gh")), api.OK)
	d.Crash(2, 0, 1)
	is(t, "the fourth one", d, "ab\xe3degi", 7, 10)
}

// P7.3: whatever is done but Replace and Cut, what is fast stays as it is; so do refused calls.
func TestFastStays(t *testing.T) {
	for _, fast := range []string{"", "a", "ab", "\xff\x00\xff\x00", string(noise(300, 1))} {
		for keep := -1; keep < 6; keep++ {
			for _, at := range []int{-9, -1, 0, 1, 8, 99, math.MinInt, math.MaxInt} {
				d := holding(t, fast, "behind", 2)
				answers(t, "Append", d.Append([]byte("!")), api.OK)
				answers(t, "no room", d.Append([]byte("!!")), api.ErrFull)
				answers(t, "no room", d.Replace(make([]byte, len(fast)+9)), api.ErrFull)
				answers(t, "no place", d.Cut(len(fast)+8), api.ErrArg)
				is(t, "refused", d, fast+"behind!", len(fast), len(fast)+8)
				d.Crash(keep, at, 65535)
				if !strings.HasPrefix(string(d.Bytes()), fast) || d.Fast() < len(fast) {
					t.Errorf("%.20x behind Crash(%d, %d, 65535): %.20x, fast %d", fast, keep, at, d.Bytes(), d.Fast())
				}
			}
		}
	}
}

// none holds a disk that can't take anything against what all its calls shall answer.
func none(t *testing.T, what string, d *Disk) {
	t.Helper()
	numbers := []int{1, 2, -1, -2, 8, top, math.MaxInt, math.MinInt}
	is(t, what, d, "", 0, 0)
	for _, n := range []int{1, 2, 9, top, top + 1} {
		answers(t, what+": Append", d.Append(make([]byte, n)), api.ErrFull)
		answers(t, what+": Replace", d.Replace(make([]byte, n)), api.ErrFull)
	}
	answers(t, what+": Append of none", d.Append(nil), api.OK)
	answers(t, what+": Append of none", d.Append([]byte{}), api.OK)
	answers(t, what+": Replace by none", d.Replace(nil), api.OK)
	answers(t, what+": Replace by none", d.Replace([]byte{}), api.OK)
	for _, n := range numbers {
		answers(t, what+": Cut", d.Cut(n), api.ErrArg)
	}
	answers(t, what+": Cut(0)", d.Cut(0), api.OK)
	d.Sync()
	for _, keep := range append(numbers, 0) {
		for _, at := range append(numbers, 0) {
			d.Crash(keep, at, 65535)
			d.Crash(keep, 0, at)
		}
	}
	is(t, what+", behind all calls", d, "", 0, 0)
}

// P7.3, R1: a nil disk, the zero one, and those without room answer alike, whatever they are asked.
func TestNoDisk(t *testing.T) {
	var d *Disk
	var zero Disk
	for range 2 {
		none(t, "nil", d)
		none(t, "zero", &zero)
		none(t, "new", new(Disk))
		none(t, "without room", New(0))
		none(t, "below 0", New(-1))
	}
}

// fill writes over bytes, and over what lies behind them in their memory.
func fill(b []byte) {
	b = b[:cap(b)]
	for i := range b {
		b[i] = 0xee
	}
}

// R3: what is handed in isn't changed, nor what lies behind it in its memory, and isn't kept.
func TestHandedIn(t *testing.T) {
	for _, call := range []struct {
		name string
		do   func(d *Disk, b []byte) api.Errno
	}{
		{"Append", (*Disk).Append},
		{"Replace", (*Disk).Replace},
	} {
		memory := []byte("0123456789")
		b := memory[2:5]
		d := New(9)
		answers(t, call.name, call.do(d, b), api.OK)
		answers(t, "more", d.Append([]byte("xyz")), api.OK)
		d.Crash(3, 3, 65535)
		d.Append([]byte("w"))
		d.Cut(2)
		d.Append([]byte("uv"))
		if string(memory) != "0123456789" {
			t.Errorf("%s: what was handed in is %q", call.name, memory)
		}

		d = New(9)
		answers(t, call.name, call.do(d, b), api.OK)
		fill(memory)
		if string(d.Bytes()) != "234" {
			t.Errorf("%s: kept what was handed in: %q", call.name, d.Bytes())
		}
		answers(t, call.name+" without room", call.do(d, memory), api.ErrFull)
		if !bytes.Equal(memory, bytes.Repeat([]byte{0xee}, 10)) {
			t.Errorf("%s without room: changed %x", call.name, memory)
		}
	}
}

// R3: what lies behind a list's length isn't read: room counts its bytes alone.
func TestCapacity(t *testing.T) {
	memory := noise(100, 1)
	d := New(9)
	answers(t, "Append", d.Append(memory[:0]), api.OK)
	answers(t, "Append", d.Append(memory[:4]), api.OK)
	is(t, "Append", d, string(memory[:4]), 0, 9)
	answers(t, "Replace", d.Replace(memory[:9]), api.OK)
	is(t, "Replace", d, string(memory[:9]), 9, 9)
	answers(t, "Replace", d.Replace(memory[:0]), api.OK)
	is(t, "Replace", d, "", 0, 9)
}

// R3: what is told is new memory: the disk doesn't see what is written there, nor does another answer, nor an answer what is done then.
func TestHandedOut(t *testing.T) {
	for _, how := range []string{"Append", "Replace", "Cut", "Crash"} {
		d := New(12)
		d.Append([]byte("abcdef"))
		switch how {
		case "Replace":
			d.Replace([]byte("abcdef"))
		case "Cut":
			d.Append([]byte("gh"))
			d.Cut(6)
		case "Crash":
			d.Append([]byte("gh"))
			d.Crash(6, 0, 0)
		}
		first, second := d.Bytes(), d.Bytes()
		fill(first)
		if string(second) != "abcdef" || string(d.Bytes()) != "abcdef" {
			t.Errorf("behind %s: another answer is %q, the disk has %q", how, second, d.Bytes())
		}
		d.Append([]byte("ghi"))
		fill(second)
		if string(d.Bytes()) != "abcdefghi" {
			t.Errorf("behind %s: the disk has %q", how, d.Bytes())
		}
		kept := d.Bytes()
		d.Crash(9, 0, 65535)
		d.Cut(1)
		d.Append([]byte("zzzz"))
		d.Replace([]byte("yyyy"))
		if string(kept) != "abcdefghi" {
			t.Errorf("behind %s: an answer became %q", how, kept)
		}
	}
}

// R6: what one disk is told is nothing to another one, even one that was made of its bytes.
func TestDisksApart(t *testing.T) {
	a, b := New(9), New(9)
	a.Append([]byte("abc"))
	b.Replace(a.Bytes())
	a.Crash(3, 0, 65535)
	a.Sync()
	is(t, "the other one", b, "abc", 3, 9)
	b.Append([]byte("d"))
	b.Cut(0)
	is(t, "the first one", a, "\x9e\x9dc", 3, 9)
}

// model is a disk by the promises' words: strings can't be shared.
type model struct {
	fast, behind string
	room         int
}

// step does one call to a disk and to its model, and holds both against one another.
func (m *model) step(t *testing.T, d *Disk, kind, a, b, c int, data string) {
	t.Helper()
	all := m.fast + m.behind
	want := api.OK
	var got api.Errno
	switch modulo(kind, 5) {
	case 0:
		if got = d.Append([]byte(data)); len(all)+len(data) > m.room {
			want = api.ErrFull
		} else {
			m.behind += data
		}
	case 1:
		d.Sync()
		m.fast, m.behind = all, ""
	case 2:
		if got = d.Replace([]byte(data)); len(data) > m.room {
			want = api.ErrFull
		} else {
			m.fast, m.behind = data, ""
		}
	case 3:
		if got = d.Cut(a); a < 0 || a > len(all) {
			want = api.ErrArg
		} else {
			m.fast, m.behind = all[:a], ""
		}
	case 4:
		d.Crash(a, b, c)
		m.fast, m.behind = crashed(m.fast, m.behind, a, b, c), ""
	}
	answers(t, "a step", got, want)
	is(t, "a step", d, m.fast+m.behind, len(m.fast), m.room)
}

// P7.1, P7.2, P7.3: long runs of all calls, one behind the other.
func TestRuns(t *testing.T) {
	for seed := range uint64(60) {
		next := func(n int) int {
			seed = seed*6364136223846793005 + 1442695040888963407
			return int(seed>>33) % n
		}
		room := next(40)
		d, m := New(room), &model{room: room}
		for range 500 {
			kind := []int{0, 0, 0, 0, 0, 1, 2, 3, 4, 4}[next(10)]
			m.step(t, d, kind, next(room+3)-1, next(2000)-1000, next(200000)-100000, string(noise(next(12), uint32(seed))))
		}
	}
}

// P7.1, P7.2, P7.3: whatever numbers and bytes.
func FuzzDisk(f *testing.F) {
	f.Add(9, "\x01\x02", "\x03\x04\x05", 2, 0, 32768, 4)
	f.Add(-1, "", "a", -1, -1, -1, 0)
	f.Add(math.MaxInt, "a", "bcdef", math.MaxInt, math.MinInt, math.MaxInt, -1)
	f.Fuzz(func(t *testing.T, room int, first, second string, keep, at, turn, cut int) {
		d, m := New(room), &model{room: min(max(room, 0), top)}
		m.step(t, d, 0, 0, 0, 0, first)
		m.step(t, d, 1, 0, 0, 0, "")
		m.step(t, d, 0, 0, 0, 0, second)
		m.step(t, d, 4, keep, at, turn, "")
		m.step(t, d, 0, 0, 0, 0, first)
		m.step(t, d, 3, cut, 0, 0, "")
		m.step(t, d, 2, 0, 0, 0, second)
		m.step(t, d, 0, 0, 0, 0, first+second)
		m.step(t, d, 4, at, turn, keep, "")
	})
}
