package space

import (
	"polyphony/api"
	"polyphony/bag"
	"polyphony/event"
	"polyphony/vec"
	"polyphony/vlq"
)

// mostNumber is the greatest number that is read: all up to it fit into an int.
const mostNumber = 1 << 62

// Encode is the space as a text.
func (s *Space) Encode() string {
	s = s.orZero()
	var b []byte
	for _, n := range s.seen {
		b = putNumber(b, n)
	}
	b = putNumber(b, s.time)
	alive := together(s.keys, func(k *holding) *bag.Bag[api.Event] { return &k.live })
	b = putNumber(b, len(alive))
	for _, item := range alive {
		b = putEvent(b, item.X)
	}
	dead := together(s.keys, func(k *holding) *bag.Bag[ended] { return &k.dead })
	b = putNumber(b, len(dead))
	for _, item := range dead {
		b = putNumber(b, item.X.by.R)
		b = putNumber(b, item.X.by.N)
		b = putEvent(b, item.X.push)
	}
	return string(b)
}

// together is what one of the bags of each key has, by their dots, whatever the keys are. No two of them have one dot.
func together[T any](keys map[string]*holding, of func(k *holding) *bag.Bag[T]) []bag.Item[T] {
	all := bag.New[T]()
	for _, k := range keys {
		for _, item := range of(k).Items() {
			all.Put(item.Dot, item.X)
		}
	}
	return all.Items()
}

// putNumber puts a number that is not below 0 behind bytes. These are the text's own, which grows: layer 1 by itself
// would copy all of it each time.
func putNumber(b []byte, n int) []byte {
	return append(b, vlq.Put(nil, uint64(n))...)
}

// putEvent puts an event, which can be as all that are kept can, behind bytes.
func putEvent(b []byte, e api.Event) []byte {
	in, _ := event.Encode(e)
	return append(b, vlq.PutText(nil, string(in))...)
}

// fault is what a panic tells of a text, deep down: the error's number, for Decode to answer.
type fault api.Errno

// Decode is the space that a text tells.
func Decode(text string) (s *Space, e api.Errno) {
	defer func() {
		if f, ok := recover().(fault); ok {
			s, e = nil, api.Errno(f)
		}
	}()
	t := read(text)
	t.mustBeRight()
	return t.space(), api.OK
}

// must panics at an error's number.
func must(e api.Errno) {
	if e != api.OK {
		panic(fault(e))
	}
}

// mustHold panics, if a text isn't of the form that it must have.
func mustHold(holds bool) {
	if !holds {
		panic(fault(api.ErrForm))
	}
}

// told is what a text tells, which need not be a space: all of it is read ahead of asking whether it is one, as what
// can't be read is named ahead of what can't be.
type told struct {
	seen api.VV
	time int
	live []api.Event
	dead []ended
	left int // how many bytes are left
}

// read is what a text tells; it panics at what can't be read.
func read(text string) told {
	r := reader{bytes: []byte(text)}
	var t told
	for i := range t.seen {
		t.seen[i] = r.number()
	}
	t.time = r.number()
	for range r.number() {
		t.live = append(t.live, r.event())
	}
	for range r.number() {
		by := r.dot()
		t.dead = append(t.dead, ended{push: r.event(), by: by})
	}
	t.left = len(r.bytes) - r.at
	return t
}

// reader reads bytes from the left, and panics at the first that can't be read.
type reader struct {
	bytes []byte
	at    int
}

// number reads a number.
func (r *reader) number() int {
	n, next, e := vlq.Take(r.bytes, r.at)
	must(e)
	mustHold(n <= mostNumber)
	r.at = next
	return int(n)
}

// dot reads a dot.
func (r *reader) dot() api.Dot {
	replica := r.number()
	return api.Dot{R: replica, N: r.number()}
}

// event reads an event's bytes, which are laid as a text.
func (r *reader) event() api.Event {
	in, next, e := vlq.TakeText(r.bytes, r.at, api.MaxBody)
	must(e)
	r.at = next
	x, e := event.Decode([]byte(in))
	must(e)
	return x
}

// mustBeRight panics, if what was read is no space.
func (t told) mustBeRight() {
	mustHold(vec.Right(t.seen))
	mustHold(t.time <= api.MaxTime)
	t.mustBeSeen(t.live)
	for _, e := range t.live {
		mustHold(event.Adds(e.Op.Kind))
	}
	var pushes []api.Event
	for _, x := range t.dead {
		mustHold(x.push.Op.Kind == api.Push)
		mustHold(vec.Has(t.seen, x.by))
		pushes = append(pushes, x.push)
	}
	t.mustBeSeen(pushes)
	mustBeUnlike(t.live, pushes)
	mustHold(t.left == 0)
}

// mustBeSeen panics, if events don't stand by their dots, or one of them wasn't seen.
func (t told) mustBeSeen(l []api.Event) {
	for i, e := range l {
		mustHold(i == 0 || isAhead(l[i-1].Dot, e.Dot))
		mustHold(vec.Has(t.seen, e.Dot))
		mustHold(e.Time <= t.time)
	}
}

// isAhead tells whether a dot stands ahead of another one.
func isAhead(a, b api.Dot) bool {
	return a.R < b.R || a.R == b.R && a.N < b.N
}

// mustBeUnlike panics, if two lists have one dot, be it of unlike keys.
func mustBeUnlike(l, m []api.Event) {
	dots := map[api.Dot]struct{}{}
	for _, e := range l {
		dots[e.Dot] = struct{}{}
	}
	for _, e := range m {
		_, both := dots[e.Dot]
		mustHold(!both)
	}
}

// space is the space that was told.
func (t told) space() *Space {
	s := &Space{seen: t.seen, time: t.time}
	for _, e := range t.live {
		k := s.of(e.Op.Key)
		k.live.Put(e.Dot, e)
		s.keep(e.Op.Key, k)
	}
	for _, x := range t.dead {
		k := s.of(x.push.Op.Key)
		k.dead.Put(x.push.Dot, x)
		s.keep(x.push.Op.Key, k)
	}
	return s
}
