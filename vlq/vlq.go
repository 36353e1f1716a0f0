// Package vlq is layer 1: see shared/doc/01-vlq.md.
package vlq

import (
	"math"

	"polyphony/api"
)

const (
	groupBits = 7
	groupMask = 1<<groupBits - 1
	more      = 1 << groupBits
)

// Put puts a number behind bytes.
func Put(b []byte, n uint64) []byte {
	g := groups(n)
	// Appending to b itself could write behind b's length, in memory that is not ours.
	out := make([]byte, 0, len(b)+len(g))
	out = append(out, b...)
	return append(out, g...)
}

// groups is a number's bytes, the highest group first.
func groups(n uint64) []byte {
	g := make([]byte, width(n))
	last := len(g) - 1
	for i := range g {
		g[i] = byte(n>>(groupBits*(last-i))) | more
	}
	g[last] &= groupMask
	return g
}

// width is how many groups a number takes: 0 takes one, too.
func width(n uint64) int {
	w := 1
	for n > groupMask {
		n >>= groupBits
		w++
	}
	return w
}

// Take takes the number at a place, and tells the place behind it.
func Take(b []byte, at int) (uint64, int, api.Errno) {
	if at < 0 || at > len(b) {
		return 0, 0, api.ErrArg
	}
	size, whole := span(b[at:])
	if !whole {
		return 0, 0, api.ErrShort
	}
	n, e := join(b[at : at+size])
	if e != api.OK {
		return 0, 0, e
	}
	return n, at + size, api.OK
}

// span is how many bytes the first number of b takes, and whether its last one is there.
// It is asked ahead of all else, since too few bytes are named ahead of wrong ones.
func span(b []byte) (int, bool) {
	for i, c := range b {
		if c < more {
			return i + 1, true
		}
	}
	return 0, false
}

// join is the number that all of b's bytes, of which there is one at least, tell.
func join(b []byte) (uint64, api.Errno) {
	// A highest group of 0 would be a second way to write the number.
	if b[0] == more {
		return 0, api.ErrForm
	}
	n := uint64(0)
	for _, c := range b {
		// One more group would push bits out at the top.
		if n > math.MaxUint64>>groupBits {
			return 0, api.ErrLong
		}
		n = n<<groupBits | uint64(c&groupMask)
	}
	return n, api.OK
}

// PutText puts a text behind bytes.
func PutText(b []byte, s string) []byte {
	return append(Put(b, uint64(len(s))), s...)
}

// TakeText takes the text at a place, of at most so many bytes, and tells the place behind it.
func TakeText(b []byte, at, most int) (string, int, api.Errno) {
	if most < 0 {
		return "", 0, api.ErrArg
	}
	size, from, e := Take(b, at)
	if e != api.OK {
		return "", 0, e
	}
	// Held against each other as uint64: as an int a great length could be below 0.
	if size > uint64(most) {
		return "", 0, api.ErrLong
	}
	if size > uint64(len(b)-from) {
		return "", 0, api.ErrShort
	}
	to := from + int(size)
	return string(b[from:to]), to, api.OK
}

// PutInt puts a number with a sign behind bytes.
func PutInt(b []byte, n int) []byte {
	if n < 0 {
		// -2n - 1, by way of -1 - n, which the least number has too, other than -n.
		return Put(b, 2*uint64(-1-n)+1)
	}
	return Put(b, 2*uint64(n))
}

// TakeInt takes the number with a sign at a place.
func TakeInt(b []byte, at int) (int, int, api.Errno) {
	n, next, e := Take(b, at)
	if e != api.OK {
		return 0, 0, e
	}
	half := int(n / 2)
	if n%2 == 1 {
		return -1 - half, next, api.OK
	}
	return half, next, api.OK
}
