package resp

import (
	"math"
	"reflect"
	"slices"
	"strconv"
	"strings"
	"testing"

	"polyphony/api"
)

// The document's example.
func TestExample(t *testing.T) {
	feeds(t, "the example", New(), "*2\r\n$3\r\nGET\r\n$1\r\nk\r\n", [][]string{{"GET", "k"}}, api.OK)
}

// P21.2: commands are told with the piece that makes them whole, several at once, in their order.
func TestFeed(t *testing.T) {
	p := New()
	feeds(t, "nothing", p, "", nil, api.OK)
	feeds(t, "one and a beginning", p, "*2\r\n$3\r\nGET\r\n$1\r\nk\r\n*1\r\n$4\r\nKE", [][]string{{"GET", "k"}}, api.OK)
	feeds(t, "nothing more", p, "", nil, api.OK)
	feeds(t, "all but the last byte", p, "YS\r", nil, api.OK)
	feeds(t, "the last byte", p, "\n", [][]string{{"KEYS"}}, api.OK)
	feeds(t, "none is left", p, "", nil, api.OK)
	feeds(t, "three", p, wire("a")+wire("b", "")+wire("c"), [][]string{{"a"}, {"b", ""}, {"c"}}, api.OK)
	feeds(t, "one of them twice", p, wire("a")+wire("a"), [][]string{{"a"}, {"a"}}, api.OK)
	feeds(t, "a beginning", p, "*", nil, api.OK)
	feeds(t, "its end and another one", p, "1\r\n$1\r\nx\r\n"+wire("y"), [][]string{{"x"}, {"y"}}, api.OK)
}

// P21.2: the zero parser has taken nothing, as a new one.
func TestZeroParser(t *testing.T) {
	var zero Parser
	feeds(t, "the zero one", &zero, "", nil, api.OK)
	feeds(t, "the zero one", &zero, wire("a")+"*1", [][]string{{"a"}}, api.OK)
	feeds(t, "the zero one", &zero, "\r\n$0\r\n\r\nx", [][]string{{""}}, api.ErrForm)
	isDone(t, "the zero one", &zero, api.ErrForm)
	if New() == nil || *New() != (Parser{}) {
		t.Error("a new parser isn't as the zero one")
	}
}

// P21.2: from 1 to MaxArgs arguments of 0 to MaxText bytes.
func TestLimits(t *testing.T) {
	for n := 1; n <= mostArgs; n++ {
		for size := range mostText + 1 {
			l := slices.Repeat([]string{many(size, "\n")}, n)
			feeds(t, "what may be", New(), wire(l...)+wire("k"), [][]string{l, {"k"}}, api.OK)
		}
	}
	for _, n := range []int{0, 9, 10, 11, 18, 80, 100, 256, 257, 65536, 65537, 100000, 999999} {
		b := "*" + strconv.Itoa(n) + "\r\n"
		inAllWays(t, "a count of arguments", b, nil, api.ErrLong)
		inAllWays(t, "with a command ahead", wire("k")+b+wire("l"), [][]string{{"k"}}, api.ErrLong)
	}
	for _, n := range []int{65, 66, 99, 100, 128, 256, 320, 65536, 65537, 100000, 999999} {
		b := "$" + strconv.Itoa(n) + "\r\n"
		inAllWays(t, "a count of bytes", "*1\r\n"+b, nil, api.ErrLong)
		inAllWays(t, "of the second argument", "*2\r\n$1\r\nx\r\n"+b, nil, api.ErrLong)
		inAllWays(t, "with a command ahead", wire("k")+"*1\r\n"+b+wire("l"), [][]string{{"k"}}, api.ErrLong)
	}
}

// P21.2: a count is too great as soon as its line's end is whole, and not ahead of it.
func TestLongAtTheLineEnd(t *testing.T) {
	for _, ahead := range []string{"*0", "*9", "*64", "*999999", "*1\r\n$65", "*8\r\n$0\r\n\r\n$100", "*2\r\n$999999"} {
		for _, until := range []string{ahead, ahead + "\r"} {
			feeds(t, "no line's end yet", New(), until, nil, api.OK)
		}
		p := New()
		feeds(t, "half a line's end", p, wire("k")+ahead+"\r", [][]string{{"k"}}, api.OK)
		feeds(t, "the line's end", p, "\n", nil, api.ErrLong)
		isDone(t, "the line's end", p, api.ErrLong)
		for c := range 256 {
			if c == '\n' {
				continue
			}
			p := New()
			feeds(t, "another byte there", p, ahead+"\r"+string([]byte{byte(c)})+"\n", nil, api.ErrForm)
			isDone(t, "another byte there", p, api.ErrForm)
		}
	}
}

// P21.2: each way in which a byte can't stand where it stands; told with that byte, and not ahead of it.
func TestForm(t *testing.T) {
	for _, c := range []struct{ what, ahead, wrong string }{
		{"another sign", "", "+"},
		{"another sign", "", "$"},
		{"another sign", "", "\r"},
		{"another sign", "", "1"},
		{"small letters are no sign", "", "g"},
		{"another sign behind a command", wire("k"), "\r"},
		{"another sign behind a command", wire("k"), "$"},
		{"another sign of an argument", "*1\r\n", ":"},
		{"another sign of an argument", "*1\r\n", "*"},
		{"another sign of an argument", "*1\r\n", "\r"},
		{"another sign of the second argument", "*2\r\n$1\r\nx\r\n", "*"},
		{"no digit", "*", "\r"},
		{"no digit", "*", "\n"},
		{"no digit", "*", " "},
		{"a sign ahead of digits", "*", "-"},
		{"a sign ahead of digits", "*", "+"},
		{"no digit", "*1", "a"},
		{"no digit", "*1", " "},
		{"the bytes about the digits", "*", "/"},
		{"the bytes about the digits", "*", ":"},
		{"the bytes about the digits", "*1", "/"},
		{"the bytes about the digits", "*1", ":"},
		{"no digit of bytes", "*1\r\n$", "\r"},
		{"none at all, as a reply has it", "*1\r\n$", "-"},
		{"a 0 ahead of others", "*0", "1"},
		{"a 0 ahead of others", "*0", "0"},
		{"a 0 ahead of others", "*1\r\n$0", "0"},
		{"a 0 ahead of others", "*1\r\n$0", "9"},
		{"a seventh digit", "*123456", "7"},
		{"a seventh digit", "*100000", "0"},
		{"a seventh digit", "*999999", "9"},
		{"a seventh digit", "*1\r\n$123456", "7"},
		{"a sixth one may be, no letter", "*12345", "a"},
		{"no line's end", "*1", "\n"},
		{"no line's end", "*1\r", "\r"},
		{"no line's end", "*1\r", "$"},
		{"no line's end", "*1\r\n$1", "\n"},
		{"no line's end", "*1\r\n$1\r", "x"},
		{"a byte too many", "*1\r\n$1\r\nk", "k"},
		{"a byte too many", "*1\r\n$1\r\nk", "\n"},
		{"a byte too many", "*1\r\n$0\r\n", "k"},
		{"no line's end behind an argument", "*1\r\n$1\r\nk\r", "\r"},
		{"no line's end behind an argument", "*1\r\n$1\r\nk\r", "*"},
		{"a byte too few", "*1\r\n$2\r\nk\r", "\n"},
		{"two bytes too few", "*1\r\n$3\r\nk\r\n", "*"},
	} {
		var told [][]string
		if strings.HasPrefix(c.ahead, wire("k")) {
			told = [][]string{{"k"}}
		}
		feeds(t, c.what+", ahead of it", New(), c.ahead, told, api.OK)
		inAllWays(t, c.what, c.ahead+c.wrong, told, api.ErrForm)
		inAllWays(t, c.what+", with more behind", c.ahead+c.wrong+wire("l"), told, api.ErrForm)
		p := New()
		feeds(t, c.what+", with commands ahead", p, wire("a", "b")+wire("c")+c.ahead+c.wrong, append([][]string{{"a", "b"}, {"c"}}, told...), api.ErrForm)
		isDone(t, c.what, p, api.ErrForm)
	}
}

// P21.2: at each place of a command each byte, held against the document's words: the beginnings of a command have no error, and no place takes a byte more.
func TestEachByteAtEachPlace(t *testing.T) {
	for _, b := range []string{
		wire("GET", "k"), wire(""), wire("\r\n", "*1\r\n", ""), wire(many(64, "a")),
		wire("a", "b", "c", "d", "e", "f", "g", "h"), "*123456\r\n", "*1\r\n$123456\r\n", "*1\r\n$10\r\n",
	} {
		for at := range len(b) + 1 {
			for c := range 256 {
				for _, s := range []string{b[:at] + string([]byte{byte(c)}), b[:at] + string([]byte{byte(c)}) + b[min(at+1, len(b)):]} {
					want, e := plain(s)
					feeds(t, "a byte at a place", New(), s, want, e)
				}
			}
		}
	}
	for at := range len(wire("GET", "k")) {
		feeds(t, "a beginning", New(), wire("GET", "k")[:at], nil, api.OK)
	}
}

// P21.2, R1, R6: of whatever short bytes, what the document's words ask for.
func TestShortBytes(t *testing.T) {
	signs := []byte("*$019\r\nx")
	var grow func(b []byte)
	grow = func(b []byte) {
		want, e := plain(string(b))
		feeds(t, "short bytes", New(), string(b), want, e)
		feeds(t, "behind a beginning", fedWith("*1\r\n$"), string(b), behind("*1\r\n$", string(b)), errorOf("*1\r\n$"+string(b)))
		if len(b) < 5 {
			for _, c := range signs {
				grow(append(slices.Clone(b), c))
			}
		}
	}
	grow(nil)
}

// fedWith is a parser that has taken these bytes.
func fedWith(b string) *Parser {
	p := New()
	p.Feed([]byte(b))
	return p
}

// behind is the commands that b makes whole behind others.
func behind(ahead, b string) [][]string {
	before, _ := plain(ahead)
	all, _ := plain(ahead + b)
	return all[len(before):]
}

func errorOf(b string) api.Errno {
	_, e := plain(b)
	return e
}

// P21.2: the first fault from the left is told, whichever it is; what stands behind it plays no part.
func TestFirstFault(t *testing.T) {
	for _, c := range []struct {
		what, b string
		want    [][]string
		e       api.Errno
	}{
		{"too many arguments, and no sign", "*9\r\nx", nil, api.ErrLong},
		{"no arguments, and no sign", "*0\r\n*0\r\n", nil, api.ErrLong},
		{"no sign, and too many", "x*9\r\n", nil, api.ErrForm},
		{"too many bytes, and too few of them", "*1\r\n$65\r\nk\r\n", nil, api.ErrLong},
		{"no line's end, of too great a count", "*9\n", nil, api.ErrForm},
		{"no line's end, of too great a count", "*1\r\n$65\n", nil, api.ErrForm},
		{"a seventh digit, of too great a count", "*9999999\r\n", nil, api.ErrForm},
		{"a 0 ahead, of a count of none", "*00\r\n", nil, api.ErrForm},
		{"a wrong argument behind a right one", "*2\r\n$1\r\nk\r\n$065\r\n", nil, api.ErrForm},
		{"of two wrong commands", wire("k") + "*9\r\n" + "x", [][]string{{"k"}}, api.ErrLong},
		{"of two wrong commands", wire("k") + "x" + "*9\r\n", [][]string{{"k"}}, api.ErrForm},
		{"with right ones between", "*0\r\n" + wire("k") + "x", nil, api.ErrLong},
	} {
		inAllWays(t, c.what, c.b, c.want, c.e)
		p := New()
		feeds(t, c.what, p, c.b, c.want, c.e)
		isDone(t, c.what, p, c.e)
	}
}

// P21.3: commands' bytes, one behind the other, are just these commands, in whatever pieces.
func TestThereAndBack(t *testing.T) {
	for seed := range dice(300) {
		s := seed
		var want [][]string
		var b string
		for range s.roll(6) {
			args := s.command()
			want = append(want, args)
			b += string(Command(args))
		}
		feeds(t, "in one piece", New(), b, want, api.OK)
		p := New()
		got, e := fed(t, "in pieces", p, s.pieces(b))
		if !sameCommands(got, want) || e != api.OK {
			t.Fatalf("in pieces: %.200q, %d, want %.200q", got, e, want)
		}
		feeds(t, "nothing is left", p, wire("k"), [][]string{{"k"}}, api.OK)
	}
	all := [][]string{{"SET", "k", "a\r\nb"}, {""}, {"*1\r\n$1\r\nx\r\n", "", "$0\r\n"}, strings.Split("abcdefgh", "")}
	var b string
	for _, args := range all {
		b += string(Command(args))
	}
	inAllWays(t, "some commands", b, all, api.OK)
}

// P21.1, P21.3: of arguments that no command may have, Command's bytes are what the parser refuses.
func TestNoCommands(t *testing.T) {
	for _, args := range [][]string{nil, {}, make([]string, 9), make([]string, 100), {many(65, "x")}, {"k", many(1000, "x")}} {
		feeds(t, "too much, or nothing", New(), wire("k")+string(Command(args))+wire("l"), [][]string{{"k"}}, api.ErrLong)
	}
	feeds(t, "far too much", New(), string(Command([]string{many(1000000, "x")})), nil, api.ErrForm)
}

// P21.3: of bytes with faults too the pieces play no part.
func TestPieces(t *testing.T) {
	faults := map[api.Errno]int{}
	for seed := range dice(2000) {
		s := seed
		var b []byte
		for range 1 + s.roll(4) {
			b = append(b, wire(s.command()...)...)
		}
		for range s.roll(3) {
			b = s.turned(b)
		}
		if s.roll(3) == 0 {
			b = append(b, pick(&s, "*0", "*9", "*64", "*999999", "*1\r\n$65", "*2\r\n$1\r\nk\r\n$100")+"\r\n"...)
		}
		want, e := plain(string(b))
		feeds(t, "in one piece", New(), string(b), want, e)
		pieces := s.pieces(string(b))
		got, fault := fed(t, "in pieces", New(), pieces)
		if !sameCommands(got, want) || fault != e {
			t.Fatalf("%q: %.200q, %d, want %.200q, %d", pieces, got, fault, want, e)
		}
		faults[e]++
	}
	// Otherwise the pieces above would say little.
	for _, e := range []api.Errno{api.OK, api.ErrForm, api.ErrLong} {
		if faults[e] < 100 || len(faults) != 3 {
			t.Errorf("faults: %v", faults)
		}
	}
}

// turned is b with a byte, or a line, more, less, or another one.
func (s *dice) turned(b []byte) []byte {
	at := s.roll(len(b) + 1)
	// Often at a count, where most faults are.
	if i := strings.IndexAny(string(b[at:]), "*$"); i >= 0 && s.roll(2) == 0 {
		at += i + s.roll(min(4, len(b)-at-i)+1)
	}
	end := min(len(b), at+s.roll(3))
	instead := pick(s, "", "", "0", "1", "9", "65", "\r", "\n", "\r\n", "*", "$", "x", "*0\r\n", "*9\r\n", "$65\r\n", "$64\r\n")
	return slices.Concat(b[:at], []byte(instead), b[end:])
}

// P21.3, R1: very many commands in one piece, and in pieces of a byte.
func TestManyCommands(t *testing.T) {
	const n = 20000
	b := many(n, wire("SET", "k", "v"))
	l, e := New().Feed([]byte(b))
	if len(l) != n || e != api.OK {
		t.Errorf("%d commands, %d", len(l), e)
	}
	p, told := New(), 0
	for i := range len(b) {
		l, e := p.Feed([]byte{b[i]})
		for _, args := range l {
			if !slices.Equal(args, []string{"SET", "k", "v"}) {
				t.Fatalf("%q", args)
			}
		}
		if told += len(l); e != api.OK {
			t.Fatalf("at %d: %d", i, e)
		}
	}
	if told != n {
		t.Errorf("%d commands", told)
	}
}

// P21.4: of a nil Parser nothing is told.
func TestNilParser(t *testing.T) {
	var p *Parser
	for _, b := range []string{"", wire("k"), "x", "*0\r\n", wire("a") + "*1", wire("k") + "x"} {
		feeds(t, "nil", p, b, nil, api.OK)
	}
}

// R4: nil and empty are alike.
func TestNilAndEmpty(t *testing.T) {
	for _, ahead := range []string{"", "*", wire("k")[:9], wire("k"), "*1", "x", "*0\r\n"} {
		_, want := plain(ahead)
		for _, b := range [][]byte{nil, {}, make([]byte, 0, 9)} {
			if l, e := fedWith(ahead).Feed(b); len(l) != 0 || e != want {
				t.Errorf("behind %q: Feed(%#v) = %q, %d", ahead, b, l, e)
			}
		}
	}
}

// R3: a piece isn't changed, nor kept, and what lies behind its length is neither read nor written.
func TestPiecesAreNotKept(t *testing.T) {
	whole := wire("GET", "key") + wire("SET", "k", "v")
	for cut := range len(whole) + 1 {
		memory := []byte(whole)
		p := New()
		first, e := p.Feed(memory[:cut])
		if string(memory) != whole {
			t.Fatalf("Feed wrote %q", memory)
		}
		if want, _ := plain(whole[:cut]); !sameCommands(first, want) || e != api.OK {
			t.Fatalf("Feed read on: %q, %d", first, e)
		}
		copy(memory, many(len(whole), "!"))
		second, e := p.Feed([]byte(whole[cut:]))
		if all := append(slices.Clone(first), second...); !sameCommands(all, [][]string{{"GET", "key"}, {"SET", "k", "v"}}) || e != api.OK {
			t.Fatalf("cut at %d: %q, %d", cut, all, e)
		}
	}
}

// R3: what was told is nobody else's: the commands of an answer share no memory with one another, nor with later ones.
func TestCommandsOfTheirOwn(t *testing.T) {
	p := New()
	l, _ := p.Feed([]byte(wire("a", "b") + wire("c") + wire("d", "e", "f") + "*2\r\n$1\r\ng\r\n"))
	want := [][]string{{"a", "b"}, {"c"}, {"d", "e", "f"}}
	for i := range l {
		if !sameCommands(l[i:], want[i:]) {
			t.Fatalf("%q", l)
		}
		for j := range l[i][:cap(l[i])] {
			l[i][:cap(l[i])][j] = "?"
		}
	}
	for i := range l[:cap(l)] {
		l[:cap(l)][i] = []string{"!"}
	}
	feeds(t, "what is left", p, "$1\r\nh\r\n", [][]string{{"g", "h"}}, api.OK)
}

// R6: a parser hangs on no other one, not even on the one that it is a copy of.
func TestParsersApart(t *testing.T) {
	a, b := New(), New()
	feeds(t, "a", a, "*1\r\n$1\r\n", nil, api.OK)
	feeds(t, "b", b, "x", nil, api.ErrForm)
	feeds(t, "a again", a, "k\r\n*", [][]string{{"k"}}, api.OK)
	isDone(t, "b", b, api.ErrForm)
	for seed := range dice(200) {
		s := seed
		one := fedWith(wire(s.command()...)[:s.roll(9)])
		other := *one
		copied := *one
		feeds(t, "spoilt", &other, "?!", nil, errorAt(one, "?!"))
		x, y := s.text(), s.text()
		want, e := plain(copied.left + x)
		feeds(t, "one", one, x, want, e)
		want, e = plain(copied.left + y)
		feeds(t, "its copy", &copied, y, want, e)
	}
}

// errorAt is what a parser's copy tells of bytes, by the document's words.
func errorAt(p *Parser, b string) api.Errno { return errorOf(p.left + b) }

// R1: whatever bytes and however many: no call panics, and none beside an error but the commands ahead.
func TestWhateverIsGiven(t *testing.T) {
	for _, b := range []string{
		many(1<<20, "*"), many(1<<20, "\x00"), "*" + many(1<<20, "9"), "*" + many(1<<20, "0"), "*1\r\n$" + many(1<<20, "1"),
		"*1\r\n$64\r\n" + many(1<<20, "x"), many(1<<18, "\r\n"), everyByte(), "*" + strconv.Itoa(math.MaxInt), "*-1\r\n", "*1\r\n$-1\r\n",
	} {
		p := New()
		feeds(t, "much", p, b, nil, api.ErrForm)
		isDone(t, "much", p, api.ErrForm)
	}
}

// Ways: a parser's state is what is left: never more than the beginning of one command, and nothing behind an error.
func TestWhatIsKept(t *testing.T) {
	longest := wire(slices.Repeat([]string{many(mostText, "x")}, mostArgs)...)
	p := New()
	for i := range len(longest) {
		p.Feed([]byte{longest[i]})
		if want := longest[:i+1]; p.left != want && i+1 < len(longest) {
			t.Fatalf("kept at %d: %q", i, p.left)
		}
	}
	if p.left != "" {
		t.Errorf("kept behind a command: %q", p.left)
	}
	for _, c := range []struct{ b, left string }{
		{many(1000, longest), ""}, {many(1000, longest) + "*1\r\n$", "*1\r\n$"}, {longest + "x", ""}, {longest + "*0\r\n" + longest, ""}, {"*1\r\n$1\r\nkk", ""},
	} {
		if p := fedWith(c.b); p.left != c.left {
			t.Errorf("kept: %q, want %q", p.left, c.left)
		}
	}
	p = fedWith("*1\r\n$1\r\n")
	feeds(t, "a fault behind a beginning", p, "kk", nil, api.ErrForm)
	if p.left != "" {
		t.Errorf("kept behind an error: %q", p.left)
	}
	// A string of its own, and an error's number: nothing that could hold a great piece, or that two parsers could share.
	all := reflect.TypeFor[Parser]()
	if all.NumField() != 2 || all.Field(0).Type.Kind() != reflect.String || all.Field(1).Type != reflect.TypeFor[api.Errno]() {
		t.Errorf("a parser has more, or other things: %v", all)
	}
}
