package frame

import (
	"bytes"
	"math"
	"slices"
	"strings"
	"testing"

	"polyphony/api"
	"polyphony/crc"
)

// most is how many bytes a body may have, as the document says it.
const most = 65529

// noise is bytes that look like no pattern, the same ones each time.
func noise(n int, seed uint32) []byte {
	b := make([]byte, n)
	for i := range b {
		seed = seed*1664525 + 1013904223
		b[i] = byte(seed >> 24)
	}
	return b
}

// head is a length as a frame tells it, sealed.
func head(n int) string { return string(crc.Seal([]byte{byte(n / 256), byte(n % 256)})) }

// framed is a body's frame, put together by the document's words.
func framed(body string) string { return head(len(body)) + string(crc.Seal([]byte(body))) }

// allFramed is the frames of bodies, one behind the other.
func allFramed(bodies []string) string {
	var s strings.Builder
	for _, b := range bodies {
		s.WriteString(framed(b))
	}
	return s.String()
}

// someBodies is bodies of all sorts: none, those that look like frames and checks, and the longest one.
func someBodies() []string {
	return []string{
		"", "a", "\x00", "\xff", "ab", "123456789",
		"\x00\x00\x1d\x0f\xff\xff",
		framed("a frame within a frame"),
		string(make([]byte, 40)),
		strings.Repeat("\xff", 40),
		string(noise(255, 1)), string(noise(256, 2)), string(noise(257, 3)), string(noise(4096, 4)),
		string(noise(most-1, 5)), string(noise(most, 6)),
	}
}

// takes holds one Take against what it shall answer.
func takes(t *testing.T, what, b string, at int, body string, next int, e api.Errno) {
	t.Helper()
	in := []byte(b)
	got, n, fault := Take(in, at)
	if string(got) != body || n != next || fault != e {
		t.Errorf("%s: Take(%.20q of %d bytes, %d) = %.20q, %d, %d, want %.20q, %d, %d",
			what, b, len(b), at, got, n, fault, body, next, e)
	}
	if string(in) != b {
		t.Errorf("%s: Take changed %.20q", what, b)
	}
}

// fails is takes of what has an error: then there is no body, and the place is 0 (R2).
func fails(t *testing.T, what, b string, at int, e api.Errno) {
	t.Helper()
	takes(t, what, b, at, "", 0, e)
}

// scans holds one Scan against what it shall answer.
func scans(t *testing.T, what, b string, bodies []string, end int, all bool) {
	t.Helper()
	in := []byte(b)
	got, n, whole := Scan(in)
	if !sameBodies(got, bodies) || n != end || whole != all {
		t.Errorf("%s: Scan(%.20q of %d bytes): %d bodies, %d, %t, want %d, %d, %t",
			what, b, len(b), len(got), n, whole, len(bodies), end, all)
	}
	if string(in) != b {
		t.Errorf("%s: Scan changed %.20q", what, b)
	}
}

// sameBodies tells whether bodies are those that are asked for.
func sameBodies(got [][]byte, want []string) bool {
	return slices.EqualFunc(got, want, func(b []byte, s string) bool { return string(b) == s })
}

// P6.1: frames, byte by byte: the document's example among them.
func TestPut(t *testing.T) {
	if Room != 6 {
		t.Errorf("Room is %d", Room)
	}
	for _, c := range []struct{ body, want string }{
		{"", "\x00\x00\x1d\x0f\xff\xff"},
		{"a", "\x00\x01\x0d\x2ea\x9d\x77"},
		{"\x00", "\x00\x01\x0d\x2e\x00\xe1\xf0"},
		{"ab", "\x00\x02\x3d\x4dab\x69\xf0"},
		{"123456789", "\x00\x09\x8c\x26123456789\x29\xb1"},
		{"\xff\xff", "\x00\x02\x3d\x4d\xff\xff\x00\x00"},
	} {
		if got, e := Put([]byte(c.body)); string(got) != c.want || e != api.OK {
			t.Errorf("Put(%q) = %q, %d, want %q", c.body, got, e, c.want)
		}
		takes(t, "as told", c.want, 0, c.body, len(c.want), api.OK)
		scans(t, "as told", c.want, []string{c.body}, len(c.want), true)
	}
}

// P6.1: the length is two bytes, the highest first.
func TestPutLength(t *testing.T) {
	for _, c := range []struct {
		n    int
		want string
	}{
		{255, "\x00\xff"},
		{256, "\x01\x00"},
		{300, "\x01\x2c\xcb\xd0"},
		{most - 1, "\xff\xf8"},
		{most, "\xff\xf9\x60\xc6"},
	} {
		got, e := Put(noise(c.n, 9))
		if !strings.HasPrefix(string(got), c.want) || len(got) != c.n+6 || e != api.OK {
			t.Errorf("Put of %d bytes: %.4x, %d bytes, %d", c.n, got, len(got), e)
		}
	}
}

// P6.1: a body has at most 65529 bytes; with an error there is no frame (R2).
func TestPutTooLong(t *testing.T) {
	for _, n := range []int{most + 1, most + 2, 65534, 65535, 65536, 65537, 1 << 17, 1<<17 + 1} {
		if got, e := Put(make([]byte, n)); len(got) != 0 || e != api.ErrLong {
			t.Errorf("Put of %d bytes: %d bytes, %d", n, len(got), e)
		}
	}
}

// P6.1: what was put is taken as it was, from the beginning and from the midst of other bytes.
func TestThereAndBack(t *testing.T) {
	for _, body := range someBodies() {
		got, e := Put([]byte(body))
		if want := framed(body); string(got) != want || e != api.OK {
			t.Errorf("Put(%.20q of %d bytes) = %.20q, %d", body, len(body), got, e)
		}
		b := string(got)
		takes(t, "alone", b, 0, body, len(b), api.OK)
		takes(t, "with bytes behind", b+"behind", 0, body, len(b), api.OK)
		takes(t, "with bytes ahead", "ahead"+b, 5, body, 5+len(b), api.OK)
		takes(t, "with bytes about it", "ahead"+b+"behind", 5, body, 5+len(b), api.OK)
		scans(t, "alone", b, []string{body}, len(b), true)
	}
}

// P6.1: at the beginning, at each frame in the midst, and at the end, where nothing follows.
func TestTakePlaces(t *testing.T) {
	bodies := someBodies()
	b := allFramed(bodies)
	at := 0
	for _, body := range bodies {
		takes(t, "one behind the other", b, at, body, at+len(body)+6, api.OK)
		at += len(body) + 6
	}
	if at != len(b) {
		t.Fatalf("the frames have %d bytes, not %d", len(b), at)
	}
	fails(t, "at the last one's end", b, at, api.ErrShort)
	fails(t, "no bytes", "", 0, api.ErrShort)
}

// P6.1: a place that is none.
func TestTakeArg(t *testing.T) {
	for _, b := range []string{"", "a", "\x00\x00\x1d\x0f\xff\xff", framed("ab") + framed("c"), framed("ab") + "\x01"} {
		for _, at := range []int{-1, -2, -4, -len(b) - 1, math.MinInt, math.MinInt + 1,
			len(b) + 1, len(b) + 2, len(b) + 7, 1 << 16, 1 << 32, math.MaxInt - 1, math.MaxInt} {
			fails(t, "no place", b, at, api.ErrArg)
		}
	}
}

// P6.1: a frame that is cut off at whatever place is too short, whatever stands ahead of it.
func TestTakeCutOff(t *testing.T) {
	for _, body := range []string{"", "a", "ab", "123456789", "\x00\x00\x1d\x0f\xff\xff", string(noise(300, 8))} {
		b := framed(body)
		for cut := range len(b) {
			fails(t, "cut off", b[:cut], 0, api.ErrShort)
			fails(t, "cut off, with a frame ahead", framed("ahead")+b[:cut], 11, api.ErrShort)
		}
	}
	b := framed(string(noise(most, 6)))
	for _, cut := range []int{0, 1, 2, 3, 4, 5, 6, most, most + 3, most + 4, most + 5} {
		fails(t, "the longest one, cut off", b[:cut], 0, api.ErrShort)
	}
}

// P6.1: a head whose check is wrong isn't trusted, whatever its length is.
func TestTakeHead(t *testing.T) {
	for n := range 1 << 16 {
		h := head(n)
		want := api.ErrShort
		if n > most {
			want = api.ErrLong
		}
		fails(t, "a right head", h, 0, want)
		fails(t, "its check's last bit", h[:3]+string([]byte{h[3] ^ 1}), 0, api.ErrSum)
		fails(t, "its check's first bit", h[:2]+string([]byte{h[2] ^ 0x80, h[3]}), 0, api.ErrSum)
		fails(t, "another length", string([]byte{h[0], h[1] ^ 1})+h[2:], 0, api.ErrSum)
	}
}

// P6.1: of all checks behind a length just one makes it a head.
func TestOneHead(t *testing.T) {
	for n := range 1 << 16 {
		b := "\x00\x01" + string([]byte{byte(n >> 8), byte(n)}) + "a\x9d\x77"
		if n == 0x0d2e {
			takes(t, "the check", b, 0, "a", 7, api.OK)
		} else {
			fails(t, "another check", b, 0, api.ErrSum)
		}
	}
}

// P6.1: of all checks behind a body just one makes it a frame.
func TestOneBody(t *testing.T) {
	for n := range 1 << 16 {
		b := "\x00\x01\x0d\x2ea" + string([]byte{byte(n >> 8), byte(n)})
		if n == 0x9d77 {
			takes(t, "the check", b, 0, "a", 7, api.OK)
		} else {
			fails(t, "another check", b, 0, api.ErrSum)
		}
	}
}

// P6.1: the greatest length that a head may tell, and the least that it may not; the body is there, or too short, or wrong.
func TestTakeLong(t *testing.T) {
	body := string(crc.Seal(noise(most, 6)))
	takes(t, "65529", head(most)+body, 0, body[:most], most+6, api.OK)
	fails(t, "65529, a byte too few", head(most)+body[:most+1], 0, api.ErrShort)
	fails(t, "65529, wrong", head(most)+body[:most]+"!!", 0, api.ErrSum)
	for n := most + 1; n < 1<<16; n++ {
		fails(t, "too long, with the body", head(n)+string(crc.Seal(noise(n, 6))), 0, api.ErrLong)
		fails(t, "too long, and wrong", head(n)+string(noise(n+2, 6)), 0, api.ErrLong)
	}
}

// P6.1: where several errors apply the one that is named first is told.
func TestTakeFirstError(t *testing.T) {
	for _, c := range []struct {
		name string
		b    string
		at   int
		want api.Errno
	}{
		{"no place, and too short", "", 1, api.ErrArg},
		{"no place, and too short", "\x00", 2, api.ErrArg},
		{"no place, and wrong bytes ahead", "\x00\x01\x02\x03\x04\x05", 7, api.ErrArg},
		{"below 0, and wrong bytes", "\x00\x01\x02\x03\x04\x05", -1, api.ErrArg},
		{"a head too short, and wrong", "\x00\x00\x00", 0, api.ErrShort},
		{"a head too short, and too long a length", "\xff\xff\x00", 0, api.ErrShort},
		{"a wrong head, and too long a length", "\xff\xff\x00\x01", 0, api.ErrSum},
		{"a wrong head, and too short a body", "\x00\x09\x8c\x27", 0, api.ErrSum},
		{"a wrong head, and a wrong body", "\x00\x01\x0d\x2fa\x9d\x78", 0, api.ErrSum},
		{"too long a length, and no body", "\xff\xfa\x50\xa5", 0, api.ErrLong},
		{"too long a length, and too short a body", "\xff\xff\x00\x00ab", 0, api.ErrLong},
		{"too short a body, and a wrong one", "\x00\x09\x8c\x26987654321\x29", 0, api.ErrShort},
		{"too short a body, by its check", "\x00\x02\x3d\x4dab", 0, api.ErrShort},
		{"too short a body that is a sealed one", "\x00\x02\x3d\x4da\x9d\x77"[:6], 0, api.ErrShort},
		{"a body that is sealed, but a byte shorter", "\x00\x02\x3d\x4da\x9d\x77", 0, api.ErrShort},
		{"a body that is sealed, but a byte longer", "\x00\x01\x0d\x2eab\x69\xf0", 0, api.ErrSum},
		{"a right head, a wrong body", "\x00\x02\x3d\x4dac\x69\xf0", 0, api.ErrSum},
		{"a right head, no body, a wrong check", "\x00\x00\x1d\x0f\x00\x00", 0, api.ErrSum},
		{"the check's lowest byte first", "\x00\x02\x3d\x4dab\xf0\x69", 0, api.ErrSum},
		{"the length's lowest byte first", "\x02\x00\x3d\x4dab\x69\xf0", 0, api.ErrSum},
	} {
		fails(t, c.name, c.b, c.at, c.want)
		if c.at >= 0 {
			fails(t, c.name+", with a frame ahead", framed("ahead")+c.b, 11+c.at, c.want)
		}
	}
}

// P6.2: no bytes, one frame, several, and what is none ahead, in the midst and behind.
func TestScan(t *testing.T) {
	scans(t, "no bytes", "", nil, 0, true)
	if l, n, all := Scan(nil); len(l) != 0 || n != 0 || !all {
		t.Errorf("Scan(nil) = %v, %d, %t", l, n, all)
	}
	bodies := someBodies()
	for n := range len(bodies) + 1 {
		b := allFramed(bodies[:n])
		scans(t, "just frames", b, bodies[:n], len(b), true)
	}
	bodies = []string{"ab", "", "123456789"}
	b := allFramed(bodies)
	for _, wrong := range []string{"\x00", "\xff\xff\xff", "\x00\x00\x00\x00", "nothing of it", "\xff\xfa\x50\xa5",
		"\x00\x09\x8c\x26", "\x00\x01\x0d\x2ea\x9d\x78", "\x00\x02\x3d\x4dac\x69\xf0"} {
		scans(t, "wrong bytes behind", b+wrong, bodies, len(b), false)
		scans(t, "wrong bytes alone", wrong, nil, 0, false)
		// A head without its body could take it from what stands behind: the checks here say that none does.
		scans(t, "wrong bytes in the midst", b+wrong+b, bodies, len(b), false)
		scans(t, "wrong bytes ahead", wrong+b, nil, 0, false)
	}
}

// P6.2: what Scan finds is what Take finds, one by one.
func TestScanIsTake(t *testing.T) {
	for n := range 200 {
		b := []byte(allFramed([]string{"ab", "", string(noise(n, 1)), "c", "\x00"}))
		b[n%len(b)] ^= byte(n / 3)
		var want []string
		at := 0
		for {
			body, next, e := Take(b, at)
			if e != api.OK {
				break
			}
			want = append(want, string(body))
			at = next
		}
		scans(t, "one by one", string(b), want, at, at == len(b))
	}
}

// P6.3: frames that are cut off at whatever byte are scanned to those that are whole.
func TestScanCutOff(t *testing.T) {
	for _, bodies := range [][]string{
		{"ab", "", "123456789", "\x00", framed("within"), "", ""},
		{"", "", ""},
		{"\x00\x00\x1d\x0f\xff\xff", "\xff\xff", string(noise(300, 1)), "a"},
	} {
		b := allFramed(bodies)
		whole, end := 0, 0
		for cut := range len(b) + 1 {
			if whole < len(bodies) && cut == end+len(bodies[whole])+6 {
				end = cut
				whole++
			}
			scans(t, "cut off", b[:cut], bodies[:whole], end, cut == end)
		}
	}
}

// turn turns the bits of a pattern of 16, its highest bit at a place; false if a bit of it falls behind the end.
func turn(b []byte, at int, pattern uint16) bool {
	for i := range 16 {
		if pattern&(1<<(15-i)) == 0 {
			continue
		}
		bit := at + i
		if bit >= 8*len(b) {
			return false
		}
		b[bit/8] ^= 0x80 >> (bit % 8)
	}
	return true
}

// P6.3: a frame with any pattern of turned bits at any place isn't taken, whatever stands behind it.
func TestTurnedBits(t *testing.T) {
	for _, body := range []string{"", "a", "\x00\x01"} {
		f := framed(body)
		for _, behind := range []string{"", f} {
			for at := range 8 * len(f) {
				for pattern := 1 << 15; pattern < 1<<16; pattern++ {
					b := []byte(f + behind)
					if !turn(b, at, uint16(pattern)) {
						continue
					}
					if got, n, e := Take(b, 0); len(got) != 0 || n != 0 || e == api.OK {
						t.Fatalf("%q with %04x turned at bit %d: %q, %d, %d", f+behind, pattern, at, got, n, e)
					}
				}
			}
		}
	}
}

// patterns is patterns of turned bits of all lengths up to 16.
func patterns() []uint16 {
	return []uint16{0x8000, 0xc000, 0x8001, 0xffff, 0xff00, 0xaaaa, 0x8810, 0x8811, 0xa5a5, 0x8408, 0x9021, 0xfffe}
}

// P6.3: with any bytes behind it a frame with turned bits isn't taken, nor is anything behind it scanned.
func TestTurnedBitsWithAnyBehind(t *testing.T) {
	f := framed("ab")
	for i, behind := range []string{"", "\x00", string(make([]byte, 70000)), string(noise(70000, 1)),
		strings.Repeat("\x00\x00\x1d\x0f\xff\xff", 12000)} {
		for at := range 8 * len(f) {
			for _, p := range patterns() {
				b := []byte(f + behind)
				if !turn(b, at, p) {
					continue
				}
				if l, n, all := Scan(b); len(l) != 0 || n != 0 || all {
					t.Errorf("behind %d, %04x turned at bit %d: %d bodies, %d, %t", i, p, at, len(l), n, all)
				}
			}
		}
	}
}

// P6.3: of frames in whose midst bits are turned those ahead are scanned, and no others.
func TestTurnedBitsInTheMidst(t *testing.T) {
	bodies := []string{"ab", "", "123456789", "\x00", framed("within"), "", "the last one"}
	good := allFramed(bodies)
	which, start := 0, 0
	for at := range 8 * len(good) {
		if at == 8*(start+len(bodies[which])+6) {
			start = at / 8
			which++
		}
		for _, p := range patterns() {
			b := []byte(good)
			if turn(b, at, p) {
				scans(t, "turned", string(b), bodies[:which], start, false)
			}
		}
	}
}

// P6.3: of the longest body, about the head, the midst and the end.
func TestTurnedBitsOfTheLongest(t *testing.T) {
	body := string(noise(most, 6))
	good := framed("ahead") + framed(body) + framed("behind")
	for _, from := range []int{11, 15, 32768, 11 + most + 4} {
		for at := 8 * from; at < 8*from+16; at++ {
			b := []byte(good)
			turn(b, at, 0x8811)
			scans(t, "turned", string(b), []string{"ahead"}, 11, false)
		}
	}
}

// fill puts one byte into all memory of a list, behind its length too.
func fill(b []byte, c byte) {
	b = b[:cap(b)]
	for i := range b {
		b[i] = c
	}
}

// R3: Put writes nothing into its argument, nor behind its length, and answers new memory.
func TestPutSharesNothing(t *testing.T) {
	for n := range 10 {
		memory := []byte("abcdefghijklmnop")
		got, _ := Put(memory[:n])
		if string(memory) != "abcdefghijklmnop" {
			t.Errorf("Put of %d bytes wrote %q", n, memory)
		}
		want := framed("abcdefghijklmnop"[:n])
		fill(memory, '!')
		if string(got) != want {
			t.Errorf("Put of %d bytes answered memory of its argument: %q", n, got)
		}
		fill(got, '?')
		if string(memory) != strings.Repeat("!", 16) {
			t.Errorf("what Put answered of %d bytes reaches into its argument: %q", n, memory)
		}
	}
}

// R3: what Take answers is new memory, behind its length too.
func TestTakeSharesNothing(t *testing.T) {
	for _, body := range []string{"", "a", "123456789"} {
		memory := []byte(framed("ahead") + framed(body) + "behind")
		before := string(memory)
		got, _, e := Take(memory, 11)
		fill(got, '?')
		if string(memory) != before || e != api.OK {
			t.Errorf("what Take answered reaches into its argument: %q, %d", memory, e)
		}
		got, _, _ = Take(memory, 11)
		fill(memory, '!')
		if string(got) != body {
			t.Errorf("Take answered memory of its argument: %q", got)
		}
	}
}

// R3: Scan's bodies share nothing with its argument, nor with one another.
func TestScanSharesNothing(t *testing.T) {
	bodies := []string{"ab", "", "123456789", "c", "c"}
	memory := []byte(allFramed(bodies) + "behind")
	before := string(memory)
	got, _, _ := Scan(memory)
	for i := range got {
		fill(got[i], '?')
		for j := i + 1; j < len(got); j++ {
			if string(got[j]) != bodies[j] {
				t.Errorf("body %d shares memory with body %d", i, j)
			}
		}
		if string(memory) != before {
			t.Fatalf("body %d reaches into the argument", i)
		}
	}
	got, _, _ = Scan(memory)
	fill(memory, '!')
	if !sameBodies(got, bodies) {
		t.Errorf("Scan answered memory of its argument: %q", got)
	}
	for i := len(got) - 1; i >= 0; i-- {
		got[i] = append(got[i], "more"...)
	}
	for i := range got {
		if string(got[i]) != bodies[i]+"more" {
			t.Errorf("body %d: %q, with more appended to all", i, got[i])
		}
	}
}

// R3: what lies behind a list's length is not read.
func TestNothingIsReadBehind(t *testing.T) {
	bodies := []string{"ab", "123456789"}
	b := []byte(allFramed(bodies))
	for n := range len(b) {
		apart := slices.Clone(b[:n])
		for at := -1; at <= len(b); at++ {
			got, next, e := Take(b[:n], at)
			want, next2, e2 := Take(apart, at)
			if !bytes.Equal(got, want) || next != next2 || e != e2 {
				t.Errorf("Take at %d read on behind %d bytes: %q, %d, %d", at, n, got, next, e)
			}
		}
		whole := bodies[:min(n/8, 1)]
		if got, end, all := Scan(b[:n]); !sameBodies(got, whole) || end != 8*len(whole) || all != (n == end) {
			t.Errorf("Scan read on behind %d bytes: %q, %d, %t", n, got, end, all)
		}
	}
	if got, e := Put([]byte("abcdef")[:2]); string(got) != framed("ab") || e != api.OK {
		t.Errorf("Put read on: %q, %d", got, e)
	}
}

// R3 and R6: asked again, each call answers the same, in memory of its own.
func TestAnswersAreApart(t *testing.T) {
	first, _ := Put([]byte("ab"))
	second, _ := Put([]byte("ab"))
	fill(second, '?')
	if string(first) != framed("ab") {
		t.Errorf("one frame wrote into another: %q", first)
	}
	in, _, _ := Take(first, 0)
	in2, _, _ := Take(first, 0)
	fill(in2, '?')
	if string(in) != "ab" {
		t.Errorf("one body wrote into another: %q", in)
	}
	takes(t, "again", string(first), 0, "ab", 8, api.OK)
}

// R4: nil and empty are alike.
func TestNilAndEmpty(t *testing.T) {
	for _, b := range [][]byte{nil, {}} {
		if f, e := Put(b); string(f) != "\x00\x00\x1d\x0f\xff\xff" || e != api.OK {
			t.Errorf("Put(%#v) = %q, %d", b, f, e)
		}
		if in, n, e := Take(b, 0); len(in) != 0 || n != 0 || e != api.ErrShort {
			t.Errorf("Take(%#v, 0) = %q, %d, %d", b, in, n, e)
		}
		if l, n, all := Scan(b); len(l) != 0 || n != 0 || !all {
			t.Errorf("Scan(%#v) = %q, %d, %t", b, l, n, all)
		}
	}
}

// R1: whatever bytes and places there are, each call ends; what is taken is a frame.
func FuzzTake(f *testing.F) {
	f.Add([]byte(framed("ab")), 0)
	f.Add([]byte(allFramed([]string{"ab", "", "c"})), 8)
	f.Add([]byte("\xff\xfa\x50\xa5"), -1)
	f.Fuzz(func(t *testing.T, b []byte, at int) {
		body, next, e := Take(b, at)
		if e != api.OK && (len(body) != 0 || next != 0) {
			t.Errorf("%q, %d beside the error %d", body, next, e)
		}
		if e == api.OK && string(b[at:next]) != framed(string(body)) {
			t.Errorf("%q is taken from %q at %d", body, b, at)
		}
		l, end, all := Scan(b)
		var s []string
		for _, in := range l {
			s = append(s, string(in))
		}
		if allFramed(s) != string(b[:end]) || all != (end == len(b)) {
			t.Errorf("Scan(%q) = %q, %d, %t", b, l, end, all)
		}
	})
}
