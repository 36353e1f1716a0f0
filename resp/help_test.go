package resp

import (
	"reflect"
	"regexp"
	"slices"
	"strconv"
	"strings"
	"testing"

	"polyphony/api"
)

// The limits, as the document says them.
const (
	mostArgs = 8
	mostText = 64
)

// dice is numbers that look like no pattern, the same ones each time.
type dice uint32

func (s *dice) roll(n int) int {
	*s = *s*1664525 + 1013904223
	return int(*s>>8) % n
}

// pick is one of several things.
func pick[T any](s *dice, l ...T) T { return l[s.roll(len(l))] }

// pieces is b, cut at places that look like no pattern; empty pieces are among them.
func (s *dice) pieces(b string) []string {
	var l []string
	for b != "" {
		n := s.roll(min(len(b), pick(s, 1, 3, 20, 300)) + 1)
		l = append(l, b[:n])
		b = b[n:]
	}
	return l
}

// text is a text that a command may have: often one that looks like a command's bytes itself.
func (s *dice) text() string {
	if s.roll(3) == 0 {
		return pick(s, "", "k", "\r", "\n", "\r\n", "*", "$", "*1\r\n", "$1\r\nx\r\n", "*1\r\n$1\r\nx\r\n", "\xff\xfe", "\x00", many(63, "a"), many(64, "\n"))
	}
	b := make([]byte, s.roll(mostText+1))
	for i := range b {
		b[i] = byte(s.roll(256))
	}
	return string(b)
}

// command is a command that may be.
func (s *dice) command() []string {
	l := make([]string, 1+s.roll(mostArgs))
	for i := range l {
		l[i] = s.text()
	}
	return l
}

func many(n int, c string) string { return strings.Repeat(c, n) }

// everyByte is all 256 bytes.
func everyByte() string {
	b := make([]byte, 256)
	for i := range b {
		b[i] = byte(i)
	}
	return string(b)
}

// wire is texts' bytes by the document's words: how many there are, and each with its size ahead.
func wire(args ...string) string {
	s := "*" + strconv.Itoa(len(args)) + "\r\n"
	for _, a := range args {
		s += "$" + strconv.Itoa(len(a)) + "\r\n" + a + "\r\n"
	}
	return s
}

// A line with a count, and whatever may still become one.
var (
	line = map[string]*regexp.Regexp{
		"*": regexp.MustCompile(`^\*(0|[1-9][0-9]{0,5})\r\n`),
		"$": regexp.MustCompile(`^\$(0|[1-9][0-9]{0,5})\r\n`),
	}
	begun = map[string]*regexp.Regexp{
		"*": regexp.MustCompile(`^(\*((0|[1-9][0-9]{0,5})\r?)?)?$`),
		"$": regexp.MustCompile(`^(\$((0|[1-9][0-9]{0,5})\r?)?)?$`),
	}
)

// plainCount reads a line with a count by the document's words: the count, what stands behind, and what is wrong; ErrShort, if nothing is yet.
func plainCount(s, sign string, least, most int) (int, string, api.Errno) {
	m := line[sign].FindStringSubmatch(s)
	if m == nil {
		if begun[sign].MatchString(s) {
			return 0, "", api.ErrShort
		}
		return 0, "", api.ErrForm
	}
	n, _ := strconv.Atoi(m[1])
	if n < least || n > most {
		return 0, "", api.ErrLong
	}
	return n, s[len(m[0]):], api.OK
}

// plainCommand reads a command by the document's words.
func plainCommand(s string) ([]string, string, api.Errno) {
	n, s, e := plainCount(s, "*", 1, mostArgs)
	if e != api.OK {
		return nil, "", e
	}
	var args []string
	for range n {
		var size int
		if size, s, e = plainCount(s, "$", 0, mostText); e != api.OK {
			return nil, "", e
		}
		if len(s) < size {
			return nil, "", api.ErrShort
		}
		args = append(args, s[:size])
		s = s[size:]
		if !strings.HasPrefix(s, "\r\n") {
			if s == "" || s == "\r" {
				return nil, "", api.ErrShort
			}
			return nil, "", api.ErrForm
		}
		s = s[2:]
	}
	return args, s, api.OK
}

// plain is what a new parser tells of bytes by the document's words.
func plain(s string) ([][]string, api.Errno) {
	var l [][]string
	for {
		args, rest, e := plainCommand(s)
		if e == api.ErrShort {
			return l, api.OK
		}
		if e != api.OK {
			return l, e
		}
		l = append(l, args)
		s = rest
	}
}

// sameCommands is whether two lists of commands are alike.
func sameCommands(a, b [][]string) bool { return slices.EqualFunc(a, b, slices.Equal[[]string]) }

// feeds holds one Feed against what it shall answer.
func feeds(t *testing.T, what string, p *Parser, b string, want [][]string, e api.Errno) {
	t.Helper()
	in := []byte(b)
	got, fault := p.Feed(in)
	if !sameCommands(got, want) || fault != e {
		t.Fatalf("%s: Feed(%.80q) = %.200q, %d, want %.200q, %d", what, b, got, fault, want, e)
	}
	if string(in) != b {
		t.Fatalf("%s: Feed changed %.80q", what, b)
	}
}

// isDone holds that a parser tells nothing any more but its error.
func isDone(t *testing.T, what string, p *Parser, e api.Errno) {
	t.Helper()
	for _, b := range []string{"", "\r", "\n", wire("k"), wire("a", "b") + wire("c"), "$1\r\n", "x", "*0\r\n", "*01"} {
		feeds(t, what+", afterwards", p, b, nil, e)
	}
}

// fed is all that is told of pieces, one behind the other; each Feed behind an error is held to tell nothing else.
func fed(t *testing.T, what string, p *Parser, pieces []string) ([][]string, api.Errno) {
	t.Helper()
	var all [][]string
	fault := api.OK
	for _, b := range pieces {
		l, e := p.Feed([]byte(b))
		if fault != api.OK && (len(l) != 0 || e != fault) {
			t.Fatalf("%s: behind the error %d: Feed(%.80q) = %.80q, %d", what, fault, b, l, e)
		}
		all = append(all, l...)
		fault = e
	}
	return all, fault
}

// inAllWays holds what is told of bytes: whole, byte by byte, in two pieces cut at each place, and in pieces of some sizes.
func inAllWays(t *testing.T, what, b string, want [][]string, e api.Errno) {
	t.Helper()
	var ways [][]string
	for cut := range len(b) + 1 {
		ways = append(ways, []string{b[:cut], b[cut:]}, []string{"", b[:cut], "", b[cut:], ""})
	}
	for _, size := range []int{1, 2, 3, 7} {
		var l []string
		for p := range slices.Chunk([]byte(b), size) {
			l = append(l, string(p))
		}
		ways = append(ways, l)
	}
	for _, pieces := range ways {
		got, fault := fed(t, what, New(), pieces)
		if !sameCommands(got, want) || fault != e {
			t.Fatalf("%s: %.200q: %.200q, %d, want %.200q, %d", what, pieces, got, fault, want, e)
		}
	}
}

// encodes holds a reply's bytes, told twice.
func encodes(t *testing.T, what string, r Reply, want string) {
	t.Helper()
	list := slices.Clone(r.List)
	for range 2 {
		if got := Encode(r); string(got) != want {
			t.Fatalf("%s: Encode(%.80v) = %.200q, want %.200q", what, r, got, want)
		}
	}
	if !reflect.DeepEqual(list, r.List) {
		t.Fatalf("%s: Encode changed the list", what)
	}
}
