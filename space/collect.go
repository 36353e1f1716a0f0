package space

import (
	"polyphony/api"
	"polyphony/vec"
)

// Collect takes away list nodes that nobody can need any more.
func (s *Space) Collect(stable api.VV) int {
	s = s.orZero()
	gone := 0
	for _, key := range s.names() {
		k := s.of(key)
		gone += k.collect(stable)
		s.keep(key, k)
	}
	return gone
}

// collect takes away a key's dead events on which none hangs, and that stable lets go: with each one that goes the one
// that it named may have become such a one.
func (k *holding) collect(stable api.VV) int {
	named := k.named()
	free := k.free(stable, named)
	gone := 0
	for ; len(free) > gone; gone++ {
		e := free[gone]
		k.dead.Remove(e.Dot)
		ref := e.Op.Ref
		named[ref]--
		if x, isDead := k.dead.Get(ref); isDead && named[ref] == 0 && vec.Has(stable, x.by) {
			free = append(free, x.push)
		}
	}
	return gone
}

// named is how many of a key's live and dead Push events name each dot.
func (k *holding) named() map[api.Dot]int {
	named := map[api.Dot]int{}
	for _, item := range k.live.Items() {
		if item.X.Op.Kind == api.Push {
			named[item.X.Op.Ref]++
		}
	}
	for _, item := range k.dead.Items() {
		named[item.X.push.Op.Ref]++
	}
	return named
}

// free is the dead events that may go at once.
func (k *holding) free(stable api.VV, named map[api.Dot]int) []api.Event {
	var free []api.Event
	for _, item := range k.dead.Items() {
		if named[item.Dot] == 0 && vec.Has(stable, item.X.by) {
			free = append(free, item.X.push)
		}
	}
	return free
}
