package event

import (
	"bytes"
	"math"
	"math/rand"
	"slices"
	"strings"
	"testing"

	"polyphony/api"
)

// zeros is sixteen numbers 0.
var zeros = strings.Repeat("\x00", 16)

// example is the document's example.
func example() api.Event {
	return api.Event{Dot: api.Dot{R: 1, N: 1}, Time: 9, Op: api.Op{Kind: api.Set, Key: "k", Value: "v"}}
}

// number is a number's bytes, worked out apart from layer 1.
func number(n uint64) string {
	s := string([]byte{byte(n % 128)})
	for n /= 128; n > 0; n /= 128 {
		s = string([]byte{byte(n%128 + 128)}) + s
	}
	return s
}

// text is a text's bytes.
func text(s string) string { return number(uint64(len(s))) + s }

// piece is a part of an event's bytes: n for a number, k for the Kind, t for a text, s for a number with a sign.
type piece struct {
	is    byte
	bytes string
}

// pieces is an event's bytes by the document's list.
func pieces(e api.Event) []piece {
	num := func(n int) piece { return piece{'n', number(uint64(n))} }
	l := []piece{num(e.Dot.R), num(e.Dot.N), num(e.Time)}
	for _, n := range e.Deps {
		l = append(l, num(n))
	}
	l = append(l, piece{'k', number(uint64(e.Op.Kind))}, piece{'t', text(e.Op.Key)})
	for _, u := range uses(e.Op.Kind) {
		switch u {
		case 'F':
			l = append(l, piece{'t', text(e.Op.Field)})
		case 'V':
			l = append(l, piece{'t', text(e.Op.Value)})
		case 'N':
			n := uint64(2 * e.Op.Num)
			if e.Op.Num < 0 {
				n = uint64(-2*e.Op.Num - 1)
			}
			l = append(l, piece{'s', number(n)})
		case 'R':
			l = append(l, num(e.Op.Ref.R), num(e.Op.Ref.N))
		}
	}
	return l
}

// glued is the bytes of all pieces.
func glued(l []piece) string {
	var s strings.Builder
	for _, p := range l {
		s.WriteString(p.bytes)
	}
	return s.String()
}

// decodes holds one Decode against what it shall answer; with an error that is the zero event (R2).
func decodes(t *testing.T, what, b string, want api.Event, e api.Errno) {
	t.Helper()
	in := []byte(b)
	if got, fault := Decode(in); got != want || fault != e {
		t.Errorf("%s: Decode(%q): %v, %d; not %v, %d", what, b, got, fault, want, e)
	}
	if string(in) != b {
		t.Errorf("%s: Decode(%q) changed it to %q", what, b, in)
	}
}

// fails is decodes of what has an error.
func fails(t *testing.T, what, b string, e api.Errno) {
	t.Helper()
	decodes(t, what, b, api.Event{}, e)
}

// P5.2: the document's example, and one event of each kind, byte by byte.
func TestBytes(t *testing.T) {
	// 20000 is 1, 28 and 32 groups; 327680 is 20, 0 and 0; -200 goes as 399.
	head := "\x05\x08\x94\x80\x00" + "\x03\x00\x82\x2c\x01\x00\x07" + zeros[:8] + "\x00\x81\x9c\x20"
	for _, c := range []struct {
		e    api.Event
		want string
	}{
		{example(), "\x01\x01\x09" + zeros + "\x01\x01k\x01v"},
		{anEvent(api.Set), head + "\x01\x03key\x07a value"},
		{anEvent(api.Incr), head + "\x02\x03key\x83\x0f"},
		{anEvent(api.SAdd), head + "\x03\x03key\x05field"},
		{anEvent(api.SRem), head + "\x04\x03key\x05field"},
		{anEvent(api.HSet), head + "\x05\x03key\x05field\x07a value"},
		{anEvent(api.HDel), head + "\x06\x03key\x05field"},
		{anEvent(api.ZAdd), head + "\x07\x03key\x05field\x83\x0f"},
		{anEvent(api.ZRem), head + "\x08\x03key\x05field"},
		{anEvent(api.Push), head + "\x09\x03key\x07a value\x02\x82\x2b"},
		{anEvent(api.LRem), head + "\x0a\x03key\x02\x82\x2b"},
		{anEvent(api.Del), head + "\x0b\x03key"},
	} {
		if b, e := Encode(c.e); string(b) != c.want || e != api.OK {
			t.Errorf("Encode(%v): %q, %d; not %q", c.e, b, e, c.want)
		}
		decodes(t, "as told", c.want, c.e, api.OK)
	}
}

// P5.2, P5.3: what can be goes to its bytes and back at each edge; of what can't there are no bytes.
func TestThereAndBack(t *testing.T) {
	for _, c := range allChanges() {
		e := c.changed()
		b, fault := Encode(e)
		if !c.can {
			if len(b) != 0 || fault != api.ErrArg {
				t.Errorf("kind %d, %s: Encode: %q, %d", c.kind, c.name, b, fault)
			}
			continue
		}
		if want := glued(pieces(e)); string(b) != want || fault != api.OK {
			t.Errorf("kind %d, %s: Encode: %q, %d; not %q", c.kind, c.name, b, fault, want)
		}
		decodes(t, c.name, string(b), e, api.OK)
	}
	if b, fault := Encode(api.Event{}); len(b) != 0 || fault != api.ErrArg {
		t.Errorf("Encode of the zero event: %q, %d", b, fault)
	}
}

// P5.2: bytes that are cut off at whatever place are too few.
func TestDecodeCutOff(t *testing.T) {
	for _, kind := range kinds() {
		b := glued(pieces(anEvent(kind)))
		for n := range len(b) {
			fails(t, "cut off", b[:n], api.ErrShort)
		}
	}
	if e, fault := Decode(nil); e != (api.Event{}) || fault != api.ErrShort {
		t.Errorf("Decode of nothing: %v, %d", e, fault)
	}
}

// P5.2: bytes behind the event, whatever they are, even ones that can't be read, or the event once more.
func TestDecodeBytesBehind(t *testing.T) {
	for _, kind := range kinds() {
		b := glued(pieces(anEvent(kind)))
		for _, behind := range []string{"\x00", "\x01", "\x7f", "\x80", "\xff", "\x80\x00", "\x00\x00", "\x01v", b} {
			fails(t, "bytes behind", b+behind, api.ErrForm)
		}
	}
}

// fault is a piece in another one's place that is an error there and then, and that error.
type fault struct {
	bytes string
	e     api.Errno
}

// faultsOf is what may be wrong with a piece, so that it is told where it is read.
func faultsOf(is byte) []fault {
	all := []fault{
		{"\x80\x01", api.ErrForm},
		{"\x80\x80\x80\x05", api.ErrForm},
		{"\x82" + strings.Repeat("\x80", 8) + "\x00", api.ErrLong},
		{strings.Repeat("\xff", 11) + "\x00", api.ErrLong},
	}
	above := []uint64{1<<62 + 1, 1<<62 + 2, math.MaxInt64, 1 << 63, math.MaxUint64}
	switch is {
	case 'k':
		above = append(above, 0, 12, 13, 127, 128, 1<<8+1, 1<<32+1, 1<<62)
		fallthrough
	case 'n':
		for _, n := range above {
			all = append(all, fault{number(n), api.ErrForm})
		}
	case 't':
		all = append(all, fault{text(many(65)), api.ErrLong}, fault{text(many(200)), api.ErrLong}, fault{"\x41", api.ErrLong})
		for _, n := range above {
			all = append(all, fault{number(n), api.ErrLong})
		}
	}
	return all
}

// swapped is pieces with one of them swapped for other bytes.
func swapped(l []piece, i int, b string) []piece {
	l = slices.Clone(l)
	l[i].bytes = b
	return l
}

// P5.2: what is wrong with a piece is told at each place, whatever follows: nothing, good bytes, more behind.
func TestDecodeFaults(t *testing.T) {
	for _, kind := range kinds() {
		l := pieces(anEvent(kind))
		for i, p := range l {
			for _, f := range faultsOf(p.is) {
				b := glued(swapped(l, i, f.bytes))
				fails(t, "one fault", b, f.e)
				fails(t, "one fault, bytes behind", b+"\x00", f.e)
				// Nothing behind the fault: other than too few bytes, it is told all the same.
				fails(t, "one fault, cut off behind", glued(l[:i])+f.bytes, f.e)
			}
		}
	}
}

// P5.2: of two faults the one further left is told; behind a Kind that is none all is left unread.
func TestDecodeFirstFault(t *testing.T) {
	for _, kind := range kinds() {
		l := pieces(anEvent(kind))
		for i, p := range l {
			for _, f := range faultsOf(p.is) {
				for j := i + 1; j < len(l); j++ {
					for _, g := range faultsOf(l[j].is) {
						fails(t, "two faults", glued(swapped(swapped(l, i, f.bytes), j, g.bytes)), f.e)
					}
				}
			}
		}
	}
}

// P5.2: within a number too few bytes are told ahead of wrong ones (layer 1).
func TestDecodeShortWithinNumber(t *testing.T) {
	for _, kind := range kinds() {
		l := pieces(anEvent(kind))
		for i := range l {
			for _, b := range []string{"\x80", "\xff", strings.Repeat("\xff", 12)} {
				fails(t, "a number without an end", glued(l[:i])+b, api.ErrShort)
			}
		}
	}
}

// P5.2: a number that can be read but can't be is no fault where it stands: faults further right are
// told ahead of it; and if there are none, ErrForm is.
func TestDecodeNumbersThatCantBe(t *testing.T) {
	for _, kind := range kinds() {
		l := pieces(anEvent(kind))
		for i, p := range l {
			var odd []string
			switch p.is {
			case 'n':
				odd = []string{number(1<<62 - 1), number(1 << 62), number(1<<60 + 1<<20)}
			case 's':
				odd = []string{number(2*api.MaxNum + 1), number(2*api.MaxNum + 2), number(1<<62 + 1), number(1 << 63), number(math.MaxUint64)}
			case 't':
				// Of the texts the Key alone, behind nineteen numbers and the Kind, may not be empty.
				if i == 20 {
					odd = []string{text("")}
				}
			}
			for _, b := range odd {
				wrong := swapped(l, i, b)
				fails(t, "can't be", glued(wrong), api.ErrForm)
				fails(t, "can't be, bytes behind", glued(wrong)+"\x00", api.ErrForm)
				if i+1 < len(l) {
					fails(t, "can't be, and cut off", glued(wrong[:len(wrong)-1]), api.ErrShort)
					fails(t, "can't be, and too long behind", glued(wrong[:i+1])+strings.Repeat("\xff", 10)+"\x00", api.ErrLong)
				}
			}
		}
	}
}

// P5.2: events that can't be, laid as bytes as if they could: they are ErrForm, or the text is too long.
func TestDecodeWhatCantBe(t *testing.T) {
	for _, c := range slices.Concat(placeChanges(), textChanges(), numChanges(), refChanges()) {
		e := c.changed()
		if c.can || hasBelowZero(e) {
			continue
		}
		want := api.ErrForm
		if max(len(e.Op.Key), len(e.Op.Field), len(e.Op.Value)) > api.MaxText {
			want = api.ErrLong
		}
		if e.Op.Num == math.MaxInt || e.Op.Num == math.MinInt {
			continue // pieces would wrap round; the test above has them.
		}
		fails(t, c.name, glued(pieces(e)), want)
	}
}

// hasBelowZero tells whether numbers of an event that are laid without a sign are below 0.
func hasBelowZero(e api.Event) bool {
	return min(e.Dot.R, e.Dot.N, e.Time, e.Op.Ref.R, e.Op.Ref.N, slices.Min(e.Deps[:])) < 0
}

// P5.3: no two events have the same bytes, nor do one's bytes begin with another one's.
func TestBytesAreUnlike(t *testing.T) {
	all := someEvents()
	for _, c := range allChanges() {
		if c.can {
			all = append(all, c.changed())
		}
	}
	for _, a := range all {
		x, _ := Encode(a)
		for _, b := range all {
			y, _ := Encode(b)
			if a != b && bytes.HasPrefix(x, y) {
				t.Errorf("%v and %v: %q, %q", a, b, x, y)
			}
		}
	}
}

// P5.3: whatever bytes are decoded, they are just the bytes of what is answered, and it can be.
func TestOnlyItsBytes(t *testing.T) {
	rnd := rand.New(rand.NewSource(5))
	right := 0
	for range 20000 {
		b := []byte(glued(pieces(anEvent(1 + rnd.Intn(11)))))
		for range 1 + rnd.Intn(2) {
			turn(rnd, &b)
		}
		e, fault := Decode(b)
		if fault != api.OK {
			if e != (api.Event{}) {
				t.Fatalf("Decode(%q): %v beside the error %d", b, e, fault)
			}
			continue
		}
		right++
		if back, no := Encode(e); !Right(e) || no != api.OK || !bytes.Equal(back, b) {
			t.Fatalf("Decode(%q): %v, whose bytes are %q, %d", b, e, back, no)
		}
	}
	if right < 500 {
		t.Errorf("only %d were decoded: this tests too little", right)
	}
}

// turn changes, takes out, or puts in one byte.
func turn(rnd *rand.Rand, b *[]byte) {
	i := rnd.Intn(len(*b))
	switch rnd.Intn(4) {
	case 0:
		*b = slices.Delete(*b, i, i+1)
	case 1:
		*b = slices.Insert(*b, i, byte(rnd.Intn(256)))
	default:
		(*b)[i] ^= 1 << rnd.Intn(8)
	}
}

// R1: Decode ends at whatever bytes.
func TestDecodeAnyBytes(t *testing.T) {
	rnd := rand.New(rand.NewSource(6))
	for range 20000 {
		b := make([]byte, rnd.Intn(60))
		for i := range b {
			b[i] = byte(rnd.Intn(256) >> rnd.Intn(8))
		}
		if e, fault := Decode(b); fault != api.OK && e != (api.Event{}) {
			t.Fatalf("Decode(%q): %v beside the error %d", b, e, fault)
		}
	}
}

// R3: what lies behind a list's length is not read, even if it is the rest of the event.
func TestDecodeReadsNothingBehind(t *testing.T) {
	for _, kind := range kinds() {
		b := []byte(glued(pieces(anEvent(kind))))
		for n := range len(b) {
			if e, fault := Decode(b[:n]); e != (api.Event{}) || fault != api.ErrShort {
				t.Fatalf("kind %d, %d bytes: %v, %d", kind, n, e, fault)
			}
		}
		if e, fault := Decode(append(b, "\x80\x00"...)[:len(b)]); e != anEvent(kind) || fault != api.OK {
			t.Fatalf("kind %d: %v, %d", kind, e, fault)
		}
	}
}

// R3: an event stays as it is when the bytes that it was decoded from are changed.
func TestDecodeSharesNothing(t *testing.T) {
	for _, kind := range kinds() {
		b := []byte(glued(pieces(anEvent(kind))))
		e, _ := Decode(b)
		for i := range b {
			b[i] = 0xee
		}
		if e != anEvent(kind) {
			t.Errorf("kind %d: changed along with its bytes: %v", kind, e)
		}
	}
}

// R3: no two answers of Encode share memory, not even behind their length.
func TestEncodeSharesNothing(t *testing.T) {
	for _, kind := range kinds() {
		e := anEvent(kind)
		want := glued(pieces(e))
		a, _ := Encode(e)
		b, _ := Encode(e)
		for i := range a[:cap(a)] {
			a[:cap(a)][i] = 0xee
		}
		if string(b) != want || e != anEvent(kind) {
			t.Errorf("kind %d: changed along with another answer: %q", kind, b)
		}
		if c, fault := Encode(e); string(c) != want || fault != api.OK {
			t.Errorf("kind %d: then %q, %d", kind, c, fault)
		}
	}
}
