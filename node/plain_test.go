package node

import (
	"maps"
	"slices"

	"polyphony/api"
	"polyphony/causal"
	"polyphony/command"
	"polyphony/event"
	"polyphony/live"
	"polyphony/resp"
	"polyphony/space"
	"polyphony/vlq"
)

// marks is events that were taken away, by their dots.
type marks map[api.Dot]bool

// plain is a node by the document's words. What it has, in memory and on the disk, is told by all that it has seen, in
// order, and by what of that was taken away: nothing of what is told a client ever hangs on the latter.
type plain struct {
	self, replicas, room int
	up                   bool
	seen                 []api.Event
	fast                 int // how many of them are fast
	trimmed, collected   marks
	time                 int
	rows                 [16]api.VV
	buffer               *causal.Buffer
	space                *space.Space         // of all that was seen; never collected
	ended                map[api.Dot]api.Dot  // which event ended a Push
	laid                 int                  // how many of the events the snapshot has seen
	used                 int                  // how many bytes the snapshot and the events laid behind it take
	atSnapshot           struct{ t, c marks } // what was trimmed, and collected, then
}

// newPlain is one that has seen nothing.
func newPlain(self, replicas, room int) *plain {
	p := &plain{self: self, replicas: replicas, room: min(max(room, 0), topFile)}
	p.atSnapshot.t, p.atSnapshot.c = marks{}, marks{}
	p.begin(nil)
	return p
}

// begin lets it be up, having found that on its disk.
func (p *plain) begin(found []api.Event) {
	p.up, p.seen, p.fast, p.time = true, nil, 0, 0
	p.trimmed, p.collected = maps.Clone(p.atSnapshot.t), maps.Clone(p.atSnapshot.c)
	p.rows = [16]api.VV{}
	p.buffer, p.space, p.ended = causal.New(), space.New(), map[api.Dot]api.Dot{}
	for _, e := range found {
		p.see(e)
	}
	p.sync()
	p.rows[p.self] = p.vector(p.fast)
}

// see takes in an event for which there is room.
func (p *plain) see(e api.Event) {
	for _, a := range p.seen {
		if _, was := p.ended[a.Dot]; a.Op.Kind == 9 && !was && live.Ends(e, a) {
			p.ended[a.Dot] = e.Dot
		}
	}
	p.seen = append(p.seen, e)
	p.space.Apply(e)
	p.time = max(p.time, e.Time)
}

// hasRoom tells whether an event would have room in the log.
func (p *plain) hasRoom(e api.Event) bool {
	return p.used+sizes(p.seen[p.laid:]...)+size(e) <= p.room
}

// vector is of how many replicas the first events are.
func (p *plain) vector(n int) api.VV {
	var v api.VV
	for _, e := range p.seen[:n] {
		v[e.Dot.R]++
	}
	return v
}

// all is what was seen.
func (p *plain) all() api.VV { return p.vector(len(p.seen)) }

// sync lets all be fast.
func (p *plain) sync() { p.fast = len(p.seen) }

// others is what others may lack.
func (p *plain) others() []api.Event {
	return slices.DeleteFunc(slices.Clone(p.seen), func(e api.Event) bool { return p.trimmed[e.Dot] })
}

// dead is the dead ones, by their dots.
func (p *plain) dead() []api.Event {
	l := slices.DeleteFunc(slices.Clone(p.seen), func(e api.Event) bool {
		_, was := p.ended[e.Dot]
		return !was || p.collected[e.Dot]
	})
	slices.SortFunc(l, byDot)
	return l
}

// byDot is how two events' dots stand.
func byDot(a, b api.Event) int {
	if a.Dot.R != b.Dot.R {
		return a.Dot.R - b.Dot.R
	}
	return a.Dot.N - b.Dot.N
}

// command is Command by the document's words.
func (p *plain) command(args []string, wall int) resp.Reply {
	if !p.up {
		return command.Refuse(15)
	}
	c, fault := command.Parse(args)
	if fault != 0 {
		return command.Refuse(fault)
	}
	r, op, does := command.Plan(p.space, c)
	if !does {
		return r
	}
	at := max(p.time, 65536*wall-1) + 1
	switch {
	case p.all()[p.self] == topSeq:
		return command.Refuse(6)
	case wall < 0 || wall > topWall:
		return command.Refuse(1)
	case at > topTime:
		return command.Refuse(6)
	}
	p.time = at
	e := ev(p.self, p.all()[p.self]+1, at, p.all(), op)
	if !p.hasRoom(e) {
		return command.Refuse(9)
	}
	p.see(e)
	return r
}

// row joins a row with a vector.
func (p *plain) row(r int, v api.VV) {
	for q, n := range v {
		p.rows[r][q] = max(p.rows[r][q], n)
	}
}

// ask is Ask by the document's words.
func (p *plain) ask() []Msg {
	if !p.up {
		return nil
	}
	var l []Msg
	for to := 0; to < p.replicas; to++ {
		if to != p.self {
			l = append(l, Msg{From: p.self, To: to, Ask: true, Seen: p.vector(p.fast)})
		}
	}
	return l
}

// take is Take by the document's words.
func (p *plain) take(m Msg) []Msg {
	if !p.up || m.To != p.self || m.From == p.self || m.From < 0 || m.From >= p.replicas {
		return nil
	}
	for _, n := range m.Seen {
		if n < 0 || n > topSeq {
			return nil
		}
	}
	p.row(m.From, m.Seen)
	for _, e := range m.Events {
		out := p.buffer.Offer(e, p.all())
		for len(out) > 0 && p.hasRoom(out[0]) {
			p.see(out[0])
			out = out[1:]
		}
	}
	if !m.Ask {
		return nil
	}
	fast := p.vector(p.fast)
	lacks := slices.DeleteFunc(p.others(), func(e api.Event) bool {
		return e.Dot.N > fast[e.Dot.R] || e.Dot.N <= m.Seen[e.Dot.R]
	})
	return []Msg{{From: p.self, To: m.From, Seen: fast, Events: lacks[:min(len(lacks), batch)]}}
}

// cut is what may be taken away.
func (p *plain) cut() api.VV {
	seen, v := p.all(), all(topSeq)
	for r := 0; r < p.replicas; r++ {
		if p.rows[r][r] > seen[r] {
			return api.VV{}
		}
		for q, n := range p.rows[r] {
			v[q] = min(v[q], n)
		}
	}
	return v
}

// collect is Collect by the document's words.
func (p *plain) collect() (int, int) {
	if !p.up {
		return 0, 0
	}
	p.row(p.self, p.vector(p.fast))
	cut := p.cut()
	others, dead := len(p.others()), len(p.dead())
	for _, e := range p.others() {
		if e.Dot.N <= cut[e.Dot.R] {
			p.trimmed[e.Dot] = true
		}
	}
	for p.collectOne(cut) {
	}
	return others - len(p.others()), dead - len(p.dead())
}

// collectOne takes a dead one away that may go, if there is one.
func (p *plain) collectOne(cut api.VV) bool {
	for _, e := range p.dead() {
		by := p.ended[e.Dot]
		isNamed := slices.ContainsFunc(p.seen, func(a api.Event) bool {
			return a.Op.Kind == 9 && a.Op.Key == e.Op.Key && a.Op.Ref == e.Dot && !p.collected[a.Dot]
		})
		if by.N <= cut[by.R] && !isNamed {
			p.collected[e.Dot] = true
			return true
		}
	}
	return false
}

// text is the space's text, by layer 17's words.
func (p *plain) text() []byte {
	var b []byte
	number := func(n int) { b = vlq.Put(b, uint64(n)) }
	text := func(e api.Event) {
		in, _ := event.Encode(e)
		b = vlq.PutText(b, string(in))
	}
	for _, n := range p.all() {
		number(n)
	}
	greatest := 0
	for _, e := range p.seen {
		greatest = max(greatest, e.Time)
	}
	number(greatest)
	alive := live.All(p.seen)
	slices.SortFunc(alive, byDot)
	number(len(alive))
	for _, e := range alive {
		text(e)
	}
	number(len(p.dead()))
	for _, e := range p.dead() {
		number(p.ended[e.Dot].R)
		number(p.ended[e.Dot].N)
		text(e)
	}
	return b
}

// compact is Compact by the document's words.
func (p *plain) compact() api.Errno {
	if !p.up {
		return 11
	}
	text := len(p.text())
	used := text + 7 + sizes(p.others()...)
	switch {
	case text > 65528:
		return 4
	case used > p.room:
		return 9
	}
	p.used, p.laid = used, len(p.seen)
	p.atSnapshot.t, p.atSnapshot.c = maps.Clone(p.trimmed), maps.Clone(p.collected)
	p.sync()
	return 0
}

// crash is Crash by the document's words: of what isn't fast that is left which lies whole in what is kept, ahead of the
// first bit that is turned.
func (p *plain) crash(keep, at, turn int) {
	if !p.up {
		return
	}
	p.up = false
	kept := min(max(keep, 0), sizes(p.seen[p.fast:]...))
	whole := kept
	if turn = (turn%65536 + 65536) % 65536; kept >= 2 && turn != 0 {
		bits := 8*kept - 15
		bit := (at%bits + bits) % bits
		for ; turn < 32768; turn *= 2 {
			bit++
		}
		whole = bit / 8
	}
	n := p.fast
	for n < len(p.seen) && size(p.seen[n]) <= whole {
		whole -= size(p.seen[n])
		n++
	}
	p.seen = p.seen[:n]
}

// start is Start by the document's words.
func (p *plain) start() api.Errno {
	if p.up {
		return 11
	}
	p.begin(p.seen)
	return 0
}

// vectors is Seen by the document's words.
func (p *plain) vectors() (all, fast api.VV) {
	if !p.up {
		return api.VV{}, api.VV{}
	}
	return p.all(), p.vector(p.fast)
}

// kept is Kept by the document's words.
func (p *plain) kept() (others, dead int) {
	if !p.up {
		return 0, 0
	}
	return len(p.others()), len(p.dead())
}
