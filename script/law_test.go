package script

import (
	"slices"
	"strconv"
	"strings"
	"testing"
)

// none is a byte that is no kind.
func none(s *dice) byte {
	if s.roll(4) == 0 {
		return 0
	}
	return byte(12 + s.roll(244))
}

// words is a command, mostly one that is done.
func words(s *dice) string {
	key := func(of string) string { return pick(s, of, of, of, of, "x") }
	f, v := pick(s, "a", "b", "c"), pick(s, "v", "w", many(1+s.roll(40), "u"))
	i := strconv.Itoa(s.roll(5))
	return pick(s,
		"SET "+key("t")+" "+v, "INCRBY "+key("n")+" "+pick(s, "-3", "7"), "SADD "+key("g")+" "+f, "SREM "+key("g")+" "+f,
		"HSET "+key("h")+" "+f+" "+v, "HDEL "+key("h")+" "+f, "ZADD "+key("z")+" "+pick(s, "-2", "5")+" "+f, "ZREM "+key("z")+" "+f,
		"RPUSH "+key("l")+" "+v, "LPUSH "+key("l")+" "+v, "LINSERT "+key("l")+" "+i+" "+v, "LREM "+key("l")+" "+i,
		"DEL "+pick(s, "t", "n", "g", "h", "z", "l", "x"), "SET t", "INCRBY n x", "KEYS", "LRANGE l 0 -1", "GET t", "NO")
}

// anEntry is an entry's bytes, mostly of one that can be done.
func anEntry(s *dice) []byte {
	node := byte(s.roll(256))
	switch s.roll(20) {
	case 0, 1, 2, 3, 4, 5:
		return says(node, words(s))
	case 6:
		b := []byte{1, node, byte(s.roll(256))}
		for range b[2] % 5 {
			n := pick(s, 0, 1, 3, 60+s.roll(9))
			b = append(append(b, byte(n)), many(n, pick(s, "a", "\r", "\n", "\x02"))...)
		}
		return b
	case 7, 8:
		return []byte{2, node}
	case 9, 10:
		return []byte{3, node}
	case 11, 12, 13, 14:
		return []byte{4, byte(s.roll(4))}
	case 15:
		return []byte{byte(5 + s.roll(2)), byte(s.roll(6))}
	case 16:
		return []byte{7, node, byte(s.roll(256)), byte(s.roll(256)), byte(s.roll(3)), byte(s.roll(256))}
	case 17:
		return []byte{8, node}
	case 18:
		return []byte{byte(9 + s.roll(2)), node}
	}
	return []byte{11, node, byte(s.roll(2)), byte(s.roll(256))}
}

// aScript is the first byte, entries, and how many bytes they have, all together.
func aScript(s *dice, about int) (first byte, l [][]byte, size int) {
	first, size = pick(s, byte(s.roll(256)), byte(s.roll(4))), 1
	for size < about {
		e := anEntry(s)
		l, size = append(l, e), size+len(e)
	}
	return first, l, size
}

// anyBytes is bytes of which each may be each one; the small ones are more often so.
func anyBytes(s *dice, n int) []byte {
	b := make([]byte, n)
	for i := range b {
		b[i] = byte(pick(s, s.roll(256), s.roll(12), s.roll(12), s.roll(16)))
	}
	return b
}

// isAsPlain holds what bytes decode and run to against what the document's words say. It counts what came to pass.
func isAsPlain(t *testing.T, b []byte, counts map[string]int) {
	t.Helper()
	replicas, steps, _ := plainDecode(b)
	decodes(t, b, replicas, steps...)
	runs(t, b, strings.Join(plainRun(b), "\n"))
	for _, line := range Run(b) {
		// The first words, without the node's number.
		l := strings.Fields(line)
		if _, e := strconv.Atoi(l[1]); e == nil {
			l = slices.Delete(l, 1, 2)
		}
		counts[l[0]+" "+l[1]]++
	}
	counts["runs"]++
}

// hasCounts holds that enough came to pass.
func hasCounts(t *testing.T, counts map[string]int, least int, names ...string) {
	t.Helper()
	for _, k := range names {
		if counts[k] < least {
			t.Errorf("%q: %d times: this tests too little", k, counts[k])
		}
	}
}

// P25.1, P25.2: whatever the bytes are, they come to what the document's words say.
func TestLaw(t *testing.T) {
	counts := map[string]int{}
	for seed := range dice(250) {
		s := seed * 7919
		first, l, _ := aScript(&s, 40+s.roll(1500))
		b := []byte{first}
		for _, e := range l {
			for s.roll(4) == 0 {
				b = append(b, none(&s))
			}
			b = append(b, e...)
		}
		isAsPlain(t, b[:len(b)-s.roll(8)], counts)
		isAsPlain(t, anyBytes(&s, s.roll(400)), counts)
	}
	for seed := range dice(12) {
		s := seed*104729 + 1
		_, l, _ := aScript(&s, bound+100)
		isAsPlain(t, join([]byte{2}, slices.Concat(l...)), counts)
	}
	hasCounts(t, counts, 20, "client ok", "fsync ok", "ask ok", "deliver ok", "deliver none", "drop ok", "drop none", "double ok", "double none",
		"crash ok", "start ok", "start state", "compact ok", "compact state", "collect ok", "wall ok", "node down")
}

// P25.1: all bytes of which there are few decode as the document's words say.
func TestFewBytes(t *testing.T) {
	counts := map[string]int{}
	isAsPlain(t, nil, counts)
	for a := range 256 {
		isAsPlain(t, []byte{byte(a)}, counts)
		for b := range 14 {
			isAsPlain(t, []byte{byte(a), byte(b)}, counts)
			isAsPlain(t, []byte{byte(b), byte(a)}, counts)
			isAsPlain(t, []byte{2, byte(b), byte(a)}, counts)
			isAsPlain(t, []byte{2, byte(b), 1, byte(a), 2, 1, 3, 1, 4}, counts)
		}
	}
}

// P25.3: bytes that are no kind, put in between entries, change nothing, where the bytes are few enough.
func TestNoKindChangesNothing(t *testing.T) {
	for seed := range dice(100) {
		s := seed*65537 + 5
		first, l, size := aScript(&s, 30+s.roll(900))
		whole := join([]byte{first}, slices.Concat(l...))
		want, _ := Decode(whole)
		lines := strings.Join(Run(whole), "\n")
		for range 3 {
			// All in one place; here and there, till the last of the bytes is the last one that counts.
			at, more := s.roll(len(l)+1), 1+s.roll(bound-size)
			runs(t, join([]byte{first}, slices.Concat(l[:at]...), repeat(more, none(&s)), slices.Concat(l[at:]...)), lines)
			b := []byte{first}
			left := bound - size
			for i, e := range l {
				n := s.roll(min(left, 4) + 1)
				if i == len(l)-1 {
					n = left
				}
				for range n {
					b = append(b, none(&s))
				}
				b, left = append(b, e...), left-n
			}
			if len(b) != bound {
				t.Fatalf("%d bytes", len(b))
			}
			runs(t, b, lines)
			if n, _ := Decode(b); n != want {
				t.Fatalf("%d replicas, want %d", n, want)
			}
		}
	}
}

// P25.3: what the first entries come to doesn't hang on the ones behind them.
func TestFirstEntries(t *testing.T) {
	for seed := range dice(60) {
		s := seed*31337 + 11
		first, l, _ := aScript(&s, 30+s.roll(700))
		b := join([]byte{first}, slices.Concat(l...))
		replicas, steps := Decode(b)
		lines := Run(b)
		if len(lines) != len(l)+replicas || len(steps) != len(l) {
			t.Fatalf("%d entries: %d steps, %d lines", len(l), len(steps), len(lines))
		}
		for n := 0; n <= len(l); n += 1 + s.roll(5) {
			part := join([]byte{first}, slices.Concat(l[:n]...))
			// Ahead of nothing, of anything, of an entry that is cut off.
			for _, end := range [][]byte{nil, anyBytes(&s, s.roll(200)), {1, 0, 1}} {
				b := join(part, end)
				r, behind := Decode(b)
				told := Run(b)
				if r != replicas || !slices.Equal(behind[:n], steps[:n]) || !slices.Equal(told[:n], lines[:n]) {
					t.Fatalf("the first %d of %q:\n%v\n%q\nahead of %q:\n%v\n%q", n, l, steps[:n], lines[:n], end, behind, told)
				}
			}
		}
	}
}
