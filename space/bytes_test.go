package space

import (
	"math/bits"
	"slices"
	"strings"
	"testing"

	"polyphony/api"
	"polyphony/event"
)

// number is a number's bytes, worked out apart from layer 1.
func number(n uint64) string {
	s := string([]byte{byte(n % 128)})
	for n /= 128; n > 0; n /= 128 {
		s = string([]byte{byte(n%128 + 128)}) + s
	}
	return s
}

// asText is a text's bytes.
func asText(s string) string { return number(uint64(len(s))) + s }

// bytesOf is an event's bytes, as a text; of what can't be there are none.
func bytesOf(e api.Event) string {
	b, fault := event.Encode(e)
	if fault != api.OK {
		panic("no bytes of what can't be")
	}
	return asText(string(b))
}

// piece is a part of a space's text: n for a number, e for an event.
type piece struct {
	is    byte
	bytes string
}

// pieces is a text's parts, by the document's list; events stand there as they are given.
func pieces(seen api.VV, time int, l []api.Event, d []wholeDead) []piece {
	num := func(n int) piece { return piece{'n', number(uint64(n))} }
	var all []piece
	for _, n := range seen {
		all = append(all, num(n))
	}
	all = append(all, num(time), num(len(l)))
	for _, e := range l {
		all = append(all, piece{'e', bytesOf(e)})
	}
	all = append(all, num(len(d)))
	for _, x := range d {
		all = append(all, num(x.by.R), num(x.by.N), piece{'e', bytesOf(x.e)})
	}
	return all
}

// glued is the bytes of all pieces.
func glued(l []piece) string {
	var s strings.Builder
	for _, p := range l {
		s.WriteString(p.bytes)
	}
	return s.String()
}

// plainReader reads a text by the document's words.
type plainReader struct {
	left string
	e    api.Errno // the first error
}

func (r *plainReader) fail(e api.Errno) {
	if r.e == api.OK {
		r.e, r.left = e, ""
	}
}

// raw reads a number by layer 1's words.
func (r *plainReader) raw() uint64 {
	end := 0
	for end < len(r.left) && r.left[end] >= 128 {
		end++
	}
	if end == len(r.left) {
		r.fail(api.ErrShort)
		return 0
	}
	if r.left[0] == 128 {
		r.fail(api.ErrForm)
		return 0
	}
	n := uint64(0)
	for _, c := range []byte(r.left[:end+1]) {
		if bits.Len64(n) > 57 {
			r.fail(api.ErrLong)
			return 0
		}
		n = n*128 + uint64(c%128)
	}
	r.left = r.left[end+1:]
	return n
}

// number reads a number of at most 2^62.
func (r *plainReader) number() int {
	n := r.raw()
	if n > 1<<62 {
		r.fail(api.ErrForm)
		return 0
	}
	return int(n)
}

// event reads an event.
func (r *plainReader) event() api.Event {
	n := r.raw()
	if n > 4096 {
		r.fail(api.ErrLong)
	}
	if n > uint64(len(r.left)) {
		r.fail(api.ErrShort)
	}
	if r.e != api.OK {
		return api.Event{}
	}
	e, fault := event.Decode([]byte(r.left[:n]))
	if fault != api.OK {
		r.fail(fault)
		return api.Event{}
	}
	r.left = r.left[n:]
	return e
}

// plainDecode is Decode by the document's words.
func plainDecode(text string) (plain, api.Errno) {
	var p plain
	r := plainReader{left: text}
	for i := range p.seen {
		p.seen[i] = r.number()
	}
	p.time = r.number()
	for n := r.number(); n > 0 && r.e == api.OK; n-- {
		p.live = append(p.live, r.event())
	}
	for n := r.number(); n > 0 && r.e == api.OK; n-- {
		by := api.Dot{R: r.number()}
		by.N = r.number()
		p.dead = append(p.dead, wholeDead{by, r.event()})
	}
	if r.e != api.OK {
		return plain{}, r.e
	}
	if r.left != "" || !p.canBe() {
		return plain{}, api.ErrForm
	}
	return p, api.OK
}

// canBe is whether what was read is a space, by the document's words.
func (p *plain) canBe() bool {
	for _, n := range p.seen {
		if n < 0 || n > top {
			return false
		}
	}
	var dots []api.Dot
	for i, e := range p.live {
		if i > 0 && before(p.live[i-1].Dot, e.Dot) >= 0 || e.Time > p.time || !has(p.seen, e.Dot) {
			return false
		}
		if !slices.Contains([]int{1, 2, 3, 5, 7, 9}, e.Op.Kind) {
			return false
		}
		dots = append(dots, e.Dot)
	}
	for i, x := range p.dead {
		if i > 0 && before(p.dead[i-1].e.Dot, x.e.Dot) >= 0 || x.e.Time > p.time || !has(p.seen, x.e.Dot) || !has(p.seen, x.by) {
			return false
		}
		if x.e.Op.Kind != 9 || slices.Contains(dots, x.e.Dot) {
			return false
		}
	}
	return p.time <= topTime
}

// decodes holds Decode of a text against what it shall answer; with an error there is no space (R2).
func decodes(t *testing.T, what, text string, want api.Errno) *Space {
	t.Helper()
	s, fault := Decode(text)
	if fault != want || (s != nil) != (want == api.OK) {
		t.Fatalf("%s: Decode(%q): %v, %d, not %d", what, text, s, fault, want)
	}
	if want == api.OK && s.Encode() != text {
		t.Fatalf("%s: Decode(%q) is encoded as %q", what, text, s.Encode())
	}
	return s
}

// asWords holds Decode of a text against the document's words.
func asWords(t *testing.T, what, text string) api.Errno {
	t.Helper()
	p, want := plainDecode(text)
	s := decodes(t, what, text, want)
	if want == api.OK && (s.VV() != p.seen || s.Time() != p.time || s.Dead() != len(p.dead)) {
		t.Fatalf("%s: Decode(%q) has seen %v, %d, dead %d", what, text, s.VV(), s.Time(), s.Dead())
	}
	return want
}
