package script

import (
	"polyphony/cluster"
	"polyphony/resp"
)

// reader takes what entries tell off bytes, from the first byte on.
type reader struct {
	rest     []byte // what isn't taken yet
	replicas int
	isShort  bool // the bytes ended ahead of what was to be taken
}

// next is the step of the next whole entry, if there is one.
func (r *reader) next() (cluster.Step, bool) {
	for len(r.rest) > 0 {
		kind := r.number()
		if kind < cluster.Client || kind > cluster.Wall {
			continue
		}
		s := r.entry(kind)
		if r.isShort {
			break
		}
		return s, true
	}
	return cluster.Step{}, false
}

// entry is the step of a kind, by what stands behind the kind's byte. It counts only if the reader isn't short then.
func (r *reader) entry(kind int) cluster.Step {
	s := cluster.Step{Kind: kind}
	if isOfMessage(kind) {
		s.N = r.number()
		return s
	}
	s.Node = r.number() % r.replicas
	switch kind {
	case cluster.Client:
		s.Bytes = string(resp.Command(r.words()))
	case cluster.Crash:
		s.N = r.number()
		s.At = r.number()
		s.Turn = r.pair()
	case cluster.Wall:
		s.N = r.pair()
	}
	return s
}

// isOfMessage tells whether steps of a kind befall a message, so that no node is named.
func isOfMessage(kind int) bool {
	return kind == cluster.Deliver || kind == cluster.Drop || kind == cluster.Double
}

// number is a byte.
func (r *reader) number() int { return int(r.take(1)[0]) }

// pair is two bytes as one number, the highest one first.
func (r *reader) pair() int {
	high := r.number()
	return 256*high + r.number()
}

// words is how many words there are, and these.
func (r *reader) words() []string {
	l := make([]string, r.number()%5)
	for i := range l {
		l[i] = string(r.take(r.number()))
	}
	return l
}

// take is so many bytes; zeros, if there aren't so many any more.
func (r *reader) take(n int) []byte {
	if n > len(r.rest) {
		r.isShort = true
		return make([]byte, n)
	}
	b := r.rest[:n]
	r.rest = r.rest[n:]
	return b
}
