package space

import (
	"math"
	"slices"
	"strings"
	"testing"

	"polyphony/api"
)

// zeros is so many numbers 0.
func zeros(n int) string { return strings.Repeat("\x00", n) }

// P17.4: texts, byte by byte: of nothing, of a live event, and of a dead one.
func TestBytes(t *testing.T) {
	b := begun()
	if got := b.s.Encode(); got != zeros(19) {
		t.Errorf("nothing: %q", got)
	}
	b.see(t, made(1, 1, 9, api.VV{}, set("k", "v")))
	set := "\x01\x01\x09" + zeros(16) + "\x01\x01k\x01v"
	if got := b.s.Encode(); got != "\x00\x01"+zeros(14)+"\x09"+"\x01\x18"+set+"\x00" {
		t.Errorf("a live one: %q", got)
	}
	b.see(t, made(0, 1, 300, api.VV{0, 1}, root("l", "a")))
	push := "\x00\x01\x82\x2c" + "\x00\x01" + zeros(14) + "\x09\x01l\x01a\x00\x00"
	if got := b.s.Encode(); got != "\x01\x01"+zeros(14)+"\x82\x2c"+"\x02\x1b"+push+"\x18"+set+"\x00" {
		t.Errorf("two: %q", got)
	}
	b.see(t, made(3, 1, 7, api.VV{1, 1}, lRem("l", dot(0, 1))))
	if got := b.s.Encode(); got != "\x01\x01\x00\x01"+zeros(12)+"\x82\x2c"+"\x01\x18"+set+"\x01\x03\x01\x1b"+push {
		t.Errorf("a live and a dead one: %q", got)
	}
	b.see(t, made(3, 2, 7, api.VV{1, 1}, del("k")))
	if got := b.s.Encode(); got != "\x01\x01\x00\x02"+zeros(12)+"\x82\x2c"+"\x00"+"\x01\x03\x01\x1b"+push {
		t.Errorf("a dead one: %q", got)
	}
	b.collects(t, "all", b.p.seen)
	if got := b.s.Encode(); got != "\x01\x01\x00\x02"+zeros(12)+"\x82\x2c"+"\x00\x00" {
		t.Errorf("nothing any more: %q", got)
	}
	b.is(t, "nothing any more")
}

// P17.4: events stand by their dots, those of all keys together; dots' numbers count as numbers.
func TestEventsStandByDots(t *testing.T) {
	b := begun()
	for n := range 300 {
		r := []int{15, 2, 9}[n%3]
		key := []string{"z", "a", "m", "b"}[n%4]
		b.see(t, made(r, n/3+1, n, api.VV{}, root(key, "v")))
		if n%5 == 4 {
			b.see(t, made(0, n/5+1, n, b.p.seen, lRem(key, dot(r, n/3+1))))
		}
	}
	b.is(t, "300")
	p, _ := plainDecode(b.s.Encode())
	byDot := func(x, y api.Event) int { return before(x.Dot, y.Dot) }
	ownDot := func(x, y wholeDead) int { return before(x.e.Dot, y.e.Dot) }
	if len(p.live) != 240 || len(p.dead) != 60 || !slices.IsSortedFunc(p.live, byDot) || !slices.IsSortedFunc(p.dead, ownDot) {
		t.Errorf("%d live and %d dead ones", len(p.live), len(p.dead))
	}
}

// someTexts is texts of all sorts of spaces.
func someTexts(t *testing.T) []string {
	t.Helper()
	all := []string{New().Encode()}
	for _, ops := range [][]api.Op{
		{set("k", "v")}, {root("k", "a"), del("k")}, {root("k", "a"), push("k", "b", dot(4, 1)), lRem("k", dot(4, 1))},
		{root("k", "a"), push("j", "b", dot(4, 1)), set("k", "v"), del("j")}, {zAdd("k", "", -topNum), hSet("k", "f", ""), incr("n", topNum)},
	} {
		b := begun()
		b.see(t, inARow(4, ops...)...)
		all = append(all, b.s.Encode())
	}
	b := at(t, api.VV{top - 1, 300, 0, 1}, topTime)
	b.see(t, made(0, top, topTime, api.VV{0, 300}, root("k", "a")), made(1, 301, 9, api.VV{top}, lRem("k", dot(0, top))))
	b.see(t, made(2, 1, 9, api.VV{top, 301}, sAdd("k", "m")))
	all = append(all, b.s.Encode())
	s := dice(7)
	b = begun()
	b.see(t, s.history(18, 0, 7, last)...)
	return append(all, b.s.Encode())
}

// P17.4: what is encoded is decoded, and as nothing else is.
func TestThereAndBack(t *testing.T) {
	for _, text := range someTexts(t) {
		if asWords(t, "a text", text) != api.OK {
			t.Fatalf("%q isn't read: this tests nothing", text)
		}
	}
}

// P17.4: a text that is cut at whatever place can't be read.
func TestCut(t *testing.T) {
	for _, text := range someTexts(t) {
		for n := range len(text) {
			decodes(t, "cut", text[:n], api.ErrShort)
		}
	}
}

// P17.4: bytes behind a text, whatever they are, even such as can't be read.
func TestBytesLeft(t *testing.T) {
	for _, text := range someTexts(t) {
		for _, more := range []string{"\x00", "\x01", "\x7f", "\x80", "\xff", "\x80\x00", "\x00\x00", text} {
			decodes(t, "bytes left", text+more, api.ErrForm)
		}
	}
}

// P17.4, R1: a text with a byte changed to whatever else, at every place.
func TestByteChanged(t *testing.T) {
	is := map[api.Errno]int{}
	for _, text := range someTexts(t) {
		for at := range len(text) {
			for c := range 256 {
				b := []byte(text)
				b[at] = byte(c)
				is[asWords(t, "a byte changed", string(b))]++
			}
		}
	}
	for _, e := range []api.Errno{api.OK, api.ErrShort, api.ErrForm, api.ErrLong} {
		if is[e] < 100 {
			t.Errorf("only %d of %d: this tests too little", is[e], e)
		}
	}
}

// P17.4, R1: a text with bytes taken out, put in, or in other places, several times.
func TestBytesMixed(t *testing.T) {
	texts := someTexts(t)
	for seed := range 60000 {
		s := dice(seed)
		b := []byte(pick(&s, texts...))
		for range 1 + s.roll(3) {
			at, to := s.roll(len(b)+1), s.roll(len(b)+1)
			switch at, to = min(at, to), max(at, to); s.roll(5) {
			case 0:
				b = slices.Delete(b, at, min(to, at+3))
			case 1:
				b = slices.Insert(b, at, byte(s.roll(256)))
			case 2:
				b = slices.Insert(b, at, b[at:to]...)
			case 3:
				b = slices.Insert(b, at, []byte(number(pick(&s, uint64(1)<<62, 1<<62+1, math.MaxUint64, 4097)))...)
			case 4:
				other := pick(&s, texts...)
				b = append(b[:at:at], other[min(at, len(other)):]...)
			}
		}
		asWords(t, "bytes mixed", string(b))
	}
}

// R1: no bytes lead to a panic.
func TestAnyBytes(t *testing.T) {
	for seed := range 20000 {
		s := dice(seed)
		b := make([]byte, s.roll(60))
		for i := range b {
			b[i] = byte(s.roll(pick(&s, 2, 3, 20, 256)))
		}
		asWords(t, "any bytes", string(b))
	}
	for _, c := range []byte{0, 1, 127, 128, 255} {
		asWords(t, "one byte again and again", strings.Repeat(string([]byte{c}), 100000))
	}
}

// badPiece is bytes in a piece's place that can't be read there, and their error.
type badPiece struct {
	bytes string
	e     api.Errno
}

// badPieces is what may be wrong with a number, or with an event.
func badPieces(is byte) []badPiece {
	all := []badPiece{
		{"\x80\x01", api.ErrForm}, {"\x80\x80\x05", api.ErrForm},
		{"\x82" + strings.Repeat("\x80", 8) + "\x00", api.ErrLong}, {strings.Repeat("\xff", 12) + "\x00", api.ErrLong},
	}
	above := []uint64{1<<62 + 1, 1<<62 + 2, math.MaxInt64, 1 << 63, math.MaxUint64}
	if is == 'n' {
		for _, n := range above {
			all = append(all, badPiece{number(n), api.ErrForm})
		}
		return all
	}
	for _, n := range append(above, 4097, 4098, 1<<62) {
		all = append(all, badPiece{number(n), api.ErrLong})
	}
	right := bytesOf(made(0, 1, 0, api.VV{}, set("k", "v")))[1:]
	return append(all,
		badPiece{asText(strings.Repeat("\x00", 4097)), api.ErrLong},
		badPiece{asText(right[:5]), api.ErrShort}, badPiece{asText(""), api.ErrShort},
		badPiece{asText(right + "\x00"), api.ErrForm}, badPiece{asText(right + zeros(4000)), api.ErrForm},
		badPiece{asText(strings.Repeat("\x80", 4096)), api.ErrShort}, badPiece{asText(zeros(4096)), api.ErrForm},
		badPiece{asText("\x80\x00" + right), api.ErrForm}, badPiece{asText("\x10" + right[1:]), api.ErrForm},
		badPiece{asText(right[:20] + "\x40" + strings.Repeat("k", 63)), api.ErrShort},
		badPiece{asText(right[:20] + "\x41" + strings.Repeat("k", 80)), api.ErrLong},
	)
}

// P17.4: at each place what can't be read there is the answer: whatever is wrong, too, behind it; and whatever can't be
// a space's ahead of it.
func TestFirstError(t *testing.T) {
	b := begun()
	b.see(t, inARow(4, root("k", "a"), push("k", "b", dot(4, 1)), set("j", "v"), lRem("k", dot(4, 1)), lRem("k", dot(4, 2)), incr("n", 1))...)
	p, _ := plainDecode(b.s.Encode())
	wrong := p.seen
	wrong[15] = top + 1
	for _, l := range [][]piece{
		pieces(p.seen, p.time, p.live, p.dead),
		pieces(wrong, p.time, p.live, p.dead),
		pieces(api.VV{}, 0, p.live, p.dead),
		pieces(p.seen, topTime+1, p.live, []wholeDead{p.dead[1], p.dead[0], {dot(99, 0), p.live[0]}}),
	} {
		for at, old := range l {
			for _, bad := range badPieces(old.is) {
				swapped := slices.Clone(l)
				swapped[at] = piece{old.is, bad.bytes}
				decodes(t, "a bad piece", glued(swapped), bad.e)
				decodes(t, "a bad piece, and nothing behind", glued(swapped[:at+1]), bad.e)
				behind := append(swapped[:at+1:at+1], piece{'n', "\x80\x01"})
				decodes(t, "a bad piece, and another one behind", glued(behind), bad.e)
			}
		}
		// Cut, it is ErrShort, whatever can't be a space's ahead of that.
		whole := glued(l)
		for n := range len(whole) {
			decodes(t, "cut", whole[:n], api.ErrShort)
		}
	}
}

// P17.4: a count of more events than there are, be it ever so great, is ErrShort.
func TestGreatCounts(t *testing.T) {
	for _, n := range []uint64{1, 2, 300, 1 << 31, 1 << 40, 1<<62 - 1, 1 << 62} {
		decodes(t, "live", zeros(17)+number(n), api.ErrShort)
		decodes(t, "dead", zeros(18)+number(n), api.ErrShort)
		decodes(t, "an ending dot", zeros(18)+number(n)+"\x00", api.ErrShort)
	}
	decodes(t, "live", zeros(17)+number(1<<62+1), api.ErrForm)
	decodes(t, "dead", zeros(18)+number(1<<62+1), api.ErrForm)
	// The count is too small: what is left are bytes.
	text := bytesOf(made(0, 1, 0, api.VV{}, set("k", "v")))
	decodes(t, "right", "\x01"+zeros(16)+"\x01"+text+"\x00", api.OK)
	asWords(t, "one of two", "\x01"+zeros(16)+"\x01"+text+text+"\x00")
	asWords(t, "none of one", "\x01"+zeros(17)+text+"\x00")
}

// whole is a space that has seen much, of which parts are changed below: live ones and dead ones of several replicas.
func whole() plain {
	p := plain{seen: api.VV{3, 4, 0, 2}, time: 9}
	p.live = []api.Event{
		made(0, 2, 9, api.VV{}, set("k", "v")), made(1, 1, 0, api.VV{}, incr("n", 1)), made(1, 4, 5, api.VV{3}, push("l", "a", dot(0, 1))),
		made(3, 2, 1, api.VV{}, sAdd("k", "v")),
	}
	p.dead = []wholeDead{
		{dot(3, 1), made(0, 1, 9, api.VV{}, root("l", "b"))}, {dot(0, 3), made(1, 2, 0, api.VV{}, root("l", "c"))},
		{dot(1, 3), made(3, 1, 2, api.VV{}, root("m", "d"))},
	}
	return p
}

// P17.4: what can be read, and isn't a space's, each thing by itself; and edges at which it is one still.
func TestNoSpaces(t *testing.T) {
	own, alive := made(2, 1, 1, api.VV{}, set("x", "v")), made(0, 2, 9, api.VV{}, root("k", "v"))
	for what, c := range map[string]struct {
		change func(p *plain)
		can    bool
	}{
		"as it is":                       {func(p *plain) {}, true},
		"nothing kept":                   {func(p *plain) { p.live, p.dead = nil, nil }, true},
		"live ones alone":                {func(p *plain) { p.dead = nil }, true},
		"dead ones alone":                {func(p *plain) { p.live = nil }, true},
		"the vector at its most":         {func(p *plain) { p.seen[0], p.seen[15] = top, top }, true},
		"the vector above it, first":     {func(p *plain) { p.seen[0] = top + 1 }, false},
		"the vector above it, last":      {func(p *plain) { p.seen[15] = top + 1 }, false},
		"the vector far above":           {func(p *plain) { p.seen[7] = 1 << 62 }, false},
		"the last time":                  {func(p *plain) { p.time = topTime }, true},
		"a time above all":               {func(p *plain) { p.time = topTime + 1 }, false},
		"a time far above":               {func(p *plain) { p.time = 1 << 62 }, false},
		"the time ahead of a live one":   {func(p *plain) { p.time, p.dead[0].e.Time = 8, 0 }, false},
		"the time ahead of a dead one":   {func(p *plain) { p.time, p.live[0].Time = 8, 0 }, false},
		"the time of both":               {func(p *plain) { p.time, p.live[0].Time, p.dead[0].e.Time = 8, 8, 8 }, true},
		"the time 0":                     {func(p *plain) { p.time = 0 }, false},
		"live ones' R falls":             {func(p *plain) { p.live[0], p.live[1] = p.live[1], p.live[0] }, false},
		"live ones' N falls":             {func(p *plain) { p.live[1], p.live[2] = p.live[2], p.live[1] }, false},
		"the last live ones fall":        {func(p *plain) { p.live[2], p.live[3] = p.live[3], p.live[2] }, false},
		"a live one twice":               {func(p *plain) { p.live = slices.Insert(p.live, 1, p.live[0]) }, false},
		"the last live one twice":        {func(p *plain) { p.live = append(p.live, p.live[3]) }, false},
		"two live ones of one dot":       {func(p *plain) { p.live = slices.Insert(p.live, 1, alive) }, false},
		"dead ones' R falls":             {func(p *plain) { p.dead[0], p.dead[1] = p.dead[1], p.dead[0] }, false},
		"the last dead ones fall":        {func(p *plain) { p.dead[1], p.dead[2] = p.dead[2], p.dead[1] }, false},
		"a dead one twice":               {func(p *plain) { p.dead = append(p.dead, p.dead[2]) }, false},
		"dead ones' N falls":             {func(p *plain) { p.dead[1].e = made(0, 1, 0, api.VV{}, root("l", "c")) }, false},
		"a live one not seen":            {func(p *plain) { p.seen[3] = 1 }, false},
		"a live one of another replica":  {func(p *plain) { p.live = slices.Insert(p.live, 3, own) }, false},
		"it was seen":                    {func(p *plain) { p.live = slices.Insert(p.live, 3, own); p.seen[2] = 1 }, true},
		"a dead one not seen":            {func(p *plain) { p.dead[2].e = made(3, 3, 2, api.VV{}, root("m", "d")) }, false},
		"a dead one seen just now":       {func(p *plain) { p.dead[2].e, p.seen[3] = made(3, 3, 2, api.VV{}, root("m", "d")), 3 }, true},
		"an ending dot not seen":         {func(p *plain) { p.dead[1].by = dot(0, 4) }, false},
		"an ending dot of the last seen": {func(p *plain) { p.dead[1].by = dot(1, 4) }, true},
		"an ending dot of nobody":        {func(p *plain) { p.dead[1].by = dot(2, 1) }, false},
		"an ending dot of no replica":    {func(p *plain) { p.dead[1].by = dot(16, 1) }, false},
		"the number 0 as an ending dot":  {func(p *plain) { p.dead[1].by = dot(0, 0) }, false},
		"the number 0 elsewhere":         {func(p *plain) { p.dead[1].by = dot(3, 0) }, false},
		"a great ending dot":             {func(p *plain) { p.dead[1].by = dot(0, 1<<62) }, false},
		"a great replica":                {func(p *plain) { p.dead[1].by = dot(1<<62, 1) }, false},
		"ended by itself":                {func(p *plain) { p.dead[1].by = p.dead[1].e.Dot }, true},
		"ended by another dead one":      {func(p *plain) { p.dead[1].by = p.dead[0].e.Dot }, true},
		"ended by one thing all of them": {func(p *plain) { p.dead[0].by, p.dead[1].by, p.dead[2].by = dot(0, 3), dot(0, 3), dot(0, 3) }, true},
		"one dot live and dead":          {func(p *plain) { p.live[1] = p.dead[1].e }, false},
		"one dot, unlike keys":           {func(p *plain) { p.live[1] = made(1, 2, 0, api.VV{}, set("x", "c")) }, false},
		"one dot, the last ones":         {func(p *plain) { p.dead[2].e = made(3, 2, 0, api.VV{}, root("x", "c")) }, false},
		"Deps above the vector":          {func(p *plain) { p.live[3].Deps[9], p.dead[2].e.Deps[0] = top, top }, true},
	} {
		p := whole()
		c.change(&p)
		want := api.ErrForm
		if c.can {
			want = api.OK
		}
		text := glued(pieces(p.seen, p.time, p.live, p.dead))
		decodes(t, what, text, want)
		asWords(t, what, text)
	}
}

// P17.4: a live event that adds nothing, and a dead one that is no Push.
func TestWrongKinds(t *testing.T) {
	ref := dot(0, 1)
	for _, o := range []api.Op{
		set("k", "v"), incr("k", 1), sAdd("k", "f"), sRem("k", "f"), hSet("k", "f", "v"), hDel("k", "f"), zAdd("k", "f", 1), zRem("k", "f"),
		push("k", "v", ref), lRem("k", ref), del("k"),
	} {
		e := made(1, 3, 5, api.VV{1}, o)
		liveOK, deadOK := api.ErrForm, api.ErrForm
		if slices.Contains([]int{1, 2, 3, 5, 7, 9}, o.Kind) {
			liveOK = api.OK
		}
		if o.Kind == 9 {
			deadOK = api.OK
		}
		p := whole()
		p.live = slices.Insert(p.live, 2, e)
		decodes(t, "a live one", glued(pieces(p.seen, p.time, p.live, p.dead)), liveOK)
		p = whole()
		p.dead = slices.Insert(p.dead, 2, wholeDead{ref, e})
		decodes(t, "a dead one", glued(pieces(p.seen, p.time, p.live, p.dead)), deadOK)
	}
}

// P17.4, P17.2: a text may tell live events that end one another: what is told of them is what the layers tell.
func TestLiveOnesThatEndOneAnother(t *testing.T) {
	a := made(0, 1, 9, api.VV{0, 1}, set("k", "a"))
	b := made(1, 1, 5, api.VV{}, set("k", "b"))
	c := made(1, 1, 5, api.VV{1}, set("k", "b"))
	d := made(2, 1, 3, api.VV{}, incr("k", 4))
	keys := []string{"k", ""}
	for _, l := range [][]api.Event{{a, b}, {a, c}, {a, b, d}, {a, c, d}} {
		s := decodes(t, "such a text", glued(pieces(api.VV{1, 1, 1}, 9, l, nil)), api.OK)
		alike(t, "such a text", toldBy(s, keys), toldOf(l, keys))
	}
}
