package event

import (
	"polyphony/api"
	"polyphony/vlq"
)

// mostNumber is the greatest number without a sign that is read: all up to it fit into an int.
const mostNumber = 1 << 62

// Encode is an event's bytes.
func Encode(e api.Event) ([]byte, api.Errno) {
	if !Right(e) {
		return nil, api.ErrArg
	}
	b := putDot(nil, e.Dot)
	b = putNumber(b, e.Time)
	for _, n := range e.Deps {
		b = putNumber(b, n)
	}
	return putOp(b, e.Op), api.OK
}

// putOp puts an operation behind bytes: of what it doesn't use nothing is written.
func putOp(b []byte, op api.Op) []byte {
	b = putNumber(b, op.Kind)
	b = vlq.PutText(b, op.Key)
	if usesField(op.Kind) {
		b = vlq.PutText(b, op.Field)
	}
	if usesValue(op.Kind) {
		b = vlq.PutText(b, op.Value)
	}
	if usesNum(op.Kind) {
		b = vlq.PutInt(b, op.Num)
	}
	if usesRef(op.Kind) {
		b = putDot(b, op.Ref)
	}
	return b
}

// putDot puts a dot behind bytes.
func putDot(b []byte, d api.Dot) []byte {
	return putNumber(putNumber(b, d.R), d.N)
}

// putNumber puts a number that is not below 0 behind bytes.
func putNumber(b []byte, n int) []byte {
	return vlq.Put(b, uint64(n))
}

// Decode is the event that bytes tell.
func Decode(b []byte) (api.Event, api.Errno) {
	r := reader{bytes: b}
	e := r.event()
	if r.fault != api.OK {
		return api.Event{}, r.fault
	}
	if r.at < len(b) || !Right(e) {
		return api.Event{}, api.ErrForm
	}
	return e, api.OK
}

// reader reads bytes from the left. It keeps the first fault that it meets, and from there on reads no
// further, so that whoever reads asks for it but once, at the end.
type reader struct {
	bytes []byte
	at    int
	fault api.Errno
}

// event reads an event. It is one that can be only if Right says so, too.
func (r *reader) event() api.Event {
	var e api.Event
	e.Dot = r.dot()
	e.Time = r.number()
	for i := range e.Deps {
		e.Deps[i] = r.number()
	}
	e.Op = r.op()
	return e
}

// op reads an operation: of what it doesn't use nothing is read.
func (r *reader) op() api.Op {
	op := api.Op{Kind: r.kind()}
	op.Key = r.text()
	if usesField(op.Kind) {
		op.Field = r.text()
	}
	if usesValue(op.Kind) {
		op.Value = r.text()
	}
	if usesNum(op.Kind) {
		op.Num = r.signed()
	}
	if usesRef(op.Kind) {
		op.Ref = r.dot()
	}
	return op
}

// kind reads a kind of operations. What is none is a fault at once: it can't be told what follows.
func (r *reader) kind() int {
	kind := r.number()
	if r.fault == api.OK && !isKind(kind) {
		r.fault = api.ErrForm
	}
	return kind
}

// dot reads a dot.
func (r *reader) dot() api.Dot {
	replica := r.number()
	return api.Dot{R: replica, N: r.number()}
}

// number reads a number without a sign.
func (r *reader) number() int {
	if r.fault != api.OK {
		return 0
	}
	n, next, fault := vlq.Take(r.bytes, r.at)
	if fault == api.OK && n > mostNumber {
		fault = api.ErrForm
	}
	r.move(next, fault)
	return int(n)
}

// signed reads a number with a sign.
func (r *reader) signed() int {
	if r.fault != api.OK {
		return 0
	}
	n, next, fault := vlq.TakeInt(r.bytes, r.at)
	r.move(next, fault)
	return n
}

// text reads a text.
func (r *reader) text() string {
	if r.fault != api.OK {
		return ""
	}
	s, next, fault := vlq.TakeText(r.bytes, r.at, api.MaxText)
	r.move(next, fault)
	return s
}

// move takes down how reading one thing ended.
func (r *reader) move(next int, fault api.Errno) {
	r.at, r.fault = next, fault
}
