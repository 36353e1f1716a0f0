package node

import (
	"polyphony/aof"
	"polyphony/api"
	"polyphony/causal"
	"polyphony/command"
	"polyphony/disk"
	"polyphony/hlc"
	"polyphony/matrix"
	"polyphony/peer"
	"polyphony/resp"
	"polyphony/space"
	"polyphony/vec"
)

// life is what a node has while it is up.
type life struct {
	log    *aof.Log
	space  *space.Space
	clock  *hlc.Clock
	matrix *matrix.Matrix
	buffer *causal.Buffer
	others *peer.Log // the events that others may lack
	fast   api.VV
}

// begin is the life that starts from a disk.
func begin(self, replicas int, d *disk.Disk) (*life, api.Errno) {
	log, fault := aof.Open(d)
	if fault != api.OK {
		return nil, fault
	}
	l := &life{log: log, space: stored(log), matrix: matrix.New(replicas), buffer: causal.New(), others: peer.New()}
	l.replay()
	l.clock = hlc.New(l.space.Time())
	l.hold()
	l.matrix.See(self, l.fast)
	return l, api.OK
}

// stored is the space that a log's snapshot tells.
func stored(log *aof.Log) *space.Space {
	text, has := log.Snapshot()
	if !has {
		return space.New()
	}
	s, fault := space.Decode(text)
	if fault != api.OK {
		return space.New()
	}
	return s
}

// replay goes through the log's events. The snapshot may have seen the first ones already: those were laid behind it for
// the others' sake.
func (l *life) replay() {
	for _, e := range l.log.Events() {
		if vec.Has(l.space.VV(), e.Dot) || l.space.Apply(e) == api.OK {
			l.others.Add(e)
		}
	}
}

// hold takes down that all that was seen is fast.
func (l *life) hold() { l.fast = l.space.VV() }

// see lets an event be seen that is ready: ahead of all else it must be in the log.
func (l *life) see(e api.Event) api.Errno {
	if fault := l.log.Add(e); fault != api.OK {
		return fault
	}
	l.space.Apply(e)
	l.others.Add(e)
	l.clock.See(e.Time)
	return api.OK
}

// do is what a command answers, behind having done it.
func (l *life) do(self int, args []string, wall int) (resp.Reply, api.Errno) {
	call, fault := command.Parse(args)
	if fault != api.OK {
		return resp.Reply{}, fault
	}
	reply, op, does := command.Plan(l.space, call)
	if !does {
		return reply, api.OK
	}
	e, fault := l.next(self, op, wall)
	if fault != api.OK {
		return resp.Reply{}, fault
	}
	if fault := l.see(e); fault != api.OK {
		return resp.Reply{}, fault
	}
	return reply, api.OK
}

// next is the event that an operation makes. The clock is asked last: where there is no dot any more it doesn't tick.
func (l *life) next(self int, op api.Op, wall int) (api.Event, api.Errno) {
	seen := l.space.VV()
	dot, fault := vec.Next(seen, self)
	if fault != api.OK {
		return api.Event{}, fault
	}
	time, fault := l.clock.Tick(wall)
	if fault != api.OK {
		return api.Event{}, fault
	}
	return api.Event{Dot: dot, Time: time, Deps: seen, Op: op}, api.OK
}
