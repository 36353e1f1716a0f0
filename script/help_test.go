package script

import (
	"slices"
	"strings"
	"testing"

	"polyphony/cluster"
	"polyphony/resp"
)

// The limits, as the document says them.
const (
	bound       = 4096
	maxReplicas = 16
	topFile     = 65536
)

// dice is numbers that look like no pattern, the same ones each time.
type dice uint32

func (s *dice) roll(n int) int {
	*s = *s*1664525 + 1013904223
	return int(*s>>8) % n
}

// pick is one of several things.
func pick[T any](s *dice, l ...T) T { return l[s.roll(len(l))] }

func many(n int, c string) string { return strings.Repeat(c, n) }

// join is bytes one behind the other.
func join(l ...[]byte) []byte { return slices.Concat(l...) }

// times is the same bytes several times.
func times(n int, b []byte) []byte { return slices.Repeat(b, n) }

// repeat is one byte several times.
func repeat(n int, b byte) []byte { return times(n, []byte{b}) }

// client is the bytes of a Client entry with these words.
func client(node byte, words ...string) []byte {
	b := []byte{1, node, byte(len(words))}
	for _, w := range words {
		b = append(append(b, byte(len(w))), w...)
	}
	return b
}

// says is the same, with the words told with a space between.
func says(node byte, words string) []byte { return client(node, strings.Fields(words)...) }

// wire is a command's bytes, as the step has them.
func wire(words ...string) string { return string(resp.Command(words)) }

// meet is the bytes of a round in which one node's events become fast, and another one asks, and is answered, where no
// other messages are under way. So many replicas there are.
func meet(from, to, replicas byte) []byte {
	b := []byte{2, from, 3, to}
	for range replicas - 1 { // the questions, of which the answers come behind them
		b = append(b, 4, 0)
	}
	for range replicas - 1 {
		b = append(b, 4, 0)
	}
	return b
}

// decodes holds what bytes decode to against what they shall.
func decodes(t *testing.T, b []byte, replicas int, want ...cluster.Step) {
	t.Helper()
	n, l := Decode(b)
	if n != replicas || !slices.Equal(l, want) {
		t.Fatalf("Decode(%q):\n%d %+v\nwant\n%d %+v", b, n, l, replicas, want)
	}
}

// runs holds what bytes run to against what they shall: lines, with a line's end between.
func runs(t *testing.T, b []byte, want string) {
	t.Helper()
	if got := strings.Join(Run(b), "\n"); got != want {
		t.Fatalf("Run(%q):\n%s\nwant\n%s", b, got, want)
	}
}

// of is those lines that begin so.
func of(lines []string, start string) []string {
	var l []string
	for _, line := range lines {
		if strings.HasPrefix(line, start) {
			l = append(l, line)
		}
	}
	return l
}
