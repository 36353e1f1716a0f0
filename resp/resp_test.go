package resp

import (
	"math"
	"slices"
	"strconv"
	"strings"
	"testing"

	"polyphony/api"
)

// The kinds' numbers, as the document says them.
func TestKinds(t *testing.T) {
	if got := []int{Simple, Error, Int, Bulk, Nil, Array}; !slices.Equal(got, []int{1, 2, 3, 4, 5, 6}) {
		t.Errorf("the kinds: %v", got)
	}
}

// P21.1: each kind's bytes, the document's example among them.
func TestEncode(t *testing.T) {
	for _, c := range []struct {
		r    Reply
		want string
	}{
		{Reply{Kind: Int, Num: -3}, ":-3\r\n"},
		{Reply{Kind: Simple, Text: "OK"}, "+OK\r\n"},
		{Reply{Kind: Simple}, "+\r\n"},
		{Reply{Kind: Simple, Text: "+-:$*"}, "++-:$*\r\n"},
		{Reply{Kind: Error, Text: "ERR arg"}, "-ERR arg\r\n"},
		{Reply{Kind: Error}, "-\r\n"},
		{Reply{Kind: Int}, ":0\r\n"},
		{Reply{Kind: Int, Num: 1}, ":1\r\n"},
		{Reply{Kind: Int, Num: -10}, ":-10\r\n"},
		{Reply{Kind: Int, Num: 1234567}, ":1234567\r\n"},
		{Reply{Kind: Int, Num: api.MaxTally}, ":1125899906842624\r\n"},
		{Reply{Kind: Int, Num: math.MaxInt}, ":9223372036854775807\r\n"},
		{Reply{Kind: Int, Num: math.MinInt}, ":-9223372036854775808\r\n"},
		{Reply{Kind: Bulk, Text: "v"}, "$1\r\nv\r\n"},
		{Reply{Kind: Bulk}, "$0\r\n\r\n"},
		{Reply{Kind: Bulk, Text: "a\r\n"}, "$3\r\na\r\n\r\n"},
		{Reply{Kind: Bulk, Text: "\xc3\xa4"}, "$2\r\n\xc3\xa4\r\n"},
		{Reply{Kind: Nil}, "$-1\r\n"},
		{Reply{Kind: Array}, "*0\r\n"},
		{Reply{Kind: Array, List: []string{}}, "*0\r\n"},
		{Reply{Kind: Array, List: []string{""}}, "*1\r\n$0\r\n\r\n"},
		{Reply{Kind: Array, List: []string{"a", "", "\r\n"}}, "*3\r\n$1\r\na\r\n$0\r\n\r\n$2\r\n\r\n\r\n"},
	} {
		encodes(t, "a kind", c.r, c.want)
	}
}

// P21.1: what a kind doesn't use plays no part.
func TestEncodeOwnFields(t *testing.T) {
	full := Reply{Text: "te", Num: 7, List: []string{"a", "bc"}}
	for kind, want := range map[int]string{
		Simple: "+te\r\n", Error: "-te\r\n", Int: ":7\r\n", Bulk: "$2\r\nte\r\n", Nil: "$-1\r\n", Array: wire("a", "bc"),
	} {
		full.Kind = kind
		encodes(t, "with all fields", full, want)
	}
}

// P21.1: a reply of no kind has no bytes.
func TestEncodeNoKind(t *testing.T) {
	for _, kind := range []int{0, -1, -6, 7, 8, 256 + 1, 1 << 32, 1<<32 + 1, math.MinInt, math.MaxInt} {
		encodes(t, "no kind", Reply{Kind: kind}, "")
		encodes(t, "no kind", Reply{Kind: kind, Text: "te", Num: 7, List: []string{"a"}}, "")
	}
}

// P21.1: in Simple and Error each byte 13 and 10 stands as a space, one for one; no other byte is changed, nor any in a Bulk or an Array.
func TestLineEndsWithin(t *testing.T) {
	all := everyByte()
	flat := all[:10] + " " + all[11:13] + " " + all[14:]
	for _, c := range []struct{ text, flat string }{
		{"ERR a\r\nb", "ERR a  b"},
		{"\r", " "}, {"\n", " "}, {"\r\n\n\r", "    "}, {"\n\x0b\x0c\r\x85", " \x0b\x0c \x85"},
		{"\xff\r\xfe\n", "\xff \xfe "}, {"\xe2\x80\xa8\r\xe2\x80", "\xe2\x80\xa8 \xe2\x80"},
		{all, flat}, {all + all, flat + flat}, {many(100000, "\r\n"), many(200000, " ")},
	} {
		encodes(t, "within a line", Reply{Kind: Simple, Text: c.text}, "+"+c.flat+"\r\n")
		encodes(t, "within a line", Reply{Kind: Error, Text: c.text}, "-"+c.flat+"\r\n")
		bulk := "$" + strconv.Itoa(len(c.text)) + "\r\n" + c.text + "\r\n"
		encodes(t, "in a bulk", Reply{Kind: Bulk, Text: c.text}, bulk)
		encodes(t, "in an array", Reply{Kind: Array, List: []string{c.text, c.text}}, "*2\r\n"+bulk+bulk)
	}
}

// P21.1: sizes and counts in decimal digits, those above the limits of commands too.
func TestEncodeSizes(t *testing.T) {
	for _, n := range []int{1, 9, 10, 63, 64, 65, 99, 100, 1000, 999999, 1000000} {
		s := many(n, "x")
		size := "$" + strconv.Itoa(n) + "\r\n"
		encodes(t, "a long text", Reply{Kind: Bulk, Text: s}, size+s+"\r\n")
		encodes(t, "a long list", Reply{Kind: Array, List: make([]string, n)}, "*"+strconv.Itoa(n)+"\r\n"+many(n, "$0\r\n\r\n"))
		if got := Command([]string{s}); string(got) != "*1\r\n"+size+s+"\r\n" {
			t.Errorf("Command of %d bytes", n)
		}
		if got := Command(make([]string, n)); string(got) != "*"+strconv.Itoa(n)+"\r\n"+many(n, "$0\r\n\r\n") {
			t.Errorf("Command of %d arguments", n)
		}
	}
}

// P21.1: a command's bytes, whatever the arguments are.
func TestCommand(t *testing.T) {
	for _, c := range []struct {
		args []string
		want string
	}{
		{[]string{"GET", "k"}, "*2\r\n$3\r\nGET\r\n$1\r\nk\r\n"},
		{[]string{"KEYS"}, "*1\r\n$4\r\nKEYS\r\n"},
		{[]string{"get", "", "k"}, "*3\r\n$3\r\nget\r\n$0\r\n\r\n$1\r\nk\r\n"},
		{[]string{"SET", "k\r\n", "$1\r\nx\r\n"}, "*3\r\n$3\r\nSET\r\n$3\r\nk\r\n\r\n$7\r\n$1\r\nx\r\n\r\n"},
		{nil, "*0\r\n"},
		{[]string{}, "*0\r\n"},
		{[]string{""}, "*1\r\n$0\r\n\r\n"},
		{strings.Split("123456789", ""), "*9\r\n$1\r\n1\r\n$1\r\n2\r\n$1\r\n3\r\n$1\r\n4\r\n$1\r\n5\r\n$1\r\n6\r\n$1\r\n7\r\n$1\r\n8\r\n$1\r\n9\r\n"},
		{[]string{many(65, "\xff")}, "*1\r\n$65\r\n" + many(65, "\xff") + "\r\n"},
		{[]string{everyByte()}, "*1\r\n$256\r\n" + everyByte() + "\r\n"},
	} {
		given := slices.Clone(c.args)
		if got := Command(given); string(got) != c.want || string(Command(given)) != c.want {
			t.Errorf("Command(%.80q) = %.200q, want %.200q", c.args, got, c.want)
		}
		if !slices.Equal(given, c.args) {
			t.Errorf("Command changed %.80q", c.args)
		}
	}
}

// R3: an answer is new memory, and what lies behind a list's length is neither read nor written.
func TestBytesOfTheirOwn(t *testing.T) {
	list := []string{"a", "b", "behind"}
	for name, ask := range map[string]func() []byte{
		"Simple":  func() []byte { return Encode(Reply{Kind: Simple, Text: "te"}) },
		"Error":   func() []byte { return Encode(Reply{Kind: Error, Text: "te"}) },
		"Int":     func() []byte { return Encode(Reply{Kind: Int, Num: 7}) },
		"Bulk":    func() []byte { return Encode(Reply{Kind: Bulk, Text: "te"}) },
		"Nil":     func() []byte { return Encode(Reply{Kind: Nil}) },
		"Array":   func() []byte { return Encode(Reply{Kind: Array, List: list[:2]}) },
		"Command": func() []byte { return Command(list[:2]) },
	} {
		first := ask()
		want := string(first)
		for i := range first[:cap(first)] {
			first[:cap(first)][i] = '?'
		}
		if got := ask(); string(got) != want {
			t.Errorf("%s: %q became %q", name, want, got)
		}
		if strings.Contains(want, "behind") || !slices.Equal(list, []string{"a", "b", "behind"}) {
			t.Errorf("%s: %q, %q", name, want, list)
		}
	}
}
