package space

import (
	"maps"
	"slices"

	"polyphony/api"
	"polyphony/field"
	"polyphony/live"
	"polyphony/member"
	"polyphony/reg"
	"polyphony/rga"
	"polyphony/score"
	"polyphony/tally"
)

// Keys is the keys that there are.
func (s *Space) Keys() []string {
	return slices.DeleteFunc(s.names(), func(key string) bool { return s.Type(key) == api.None })
}

// names is the keys of which something is kept, rising: dead events are kept of keys that there aren't, too.
func (s *Space) names() []string {
	return slices.Sorted(maps.Keys(s.orZero().keys))
}

// Type is a key's type.
func (s *Space) Type(key string) int {
	return live.Type(s.living(key), key)
}

// living is the live events of a key, by their dots.
func (s *Space) living(key string) []api.Event {
	var l []api.Event
	for _, item := range s.orZero().of(key).live.Items() {
		l = append(l, item.X)
	}
	return l
}

// there is what there is of a key. These events are all of the key's type, so that the layers of other types tell
// nothing of them.
func (s *Space) there(key string) []api.Event {
	return live.Of(s.living(key), key)
}

// Text is a text's value.
func (s *Space) Text(key string) (string, bool) { return reg.Value(s.there(key)) }

// Sum is a tally's sum.
func (s *Space) Sum(key string) int { return tally.Sum(s.there(key)) }

// Check tells whether a number may be added to a tally.
func (s *Space) Check(key string, n int) api.Errno {
	if s == nil {
		return api.OK
	}
	return tally.Check(s.there(key), n)
}

// Members is a group's members.
func (s *Space) Members(key string) []string { return member.All(s.there(key)) }

// Fields is a hash's fields.
func (s *Space) Fields(key string) []field.Pair { return field.All(s.there(key)) }

// Scores is the members of a key with scores, in order.
func (s *Space) Scores(key string) []score.Pair { return score.All(s.there(key)) }

// Items is a list's items. What they hang on may be dead, so that they are put in order together with the dead ones.
func (s *Space) Items(key string) []api.Event {
	if s.Type(key) != api.List {
		return nil
	}
	k := s.of(key)
	nodes := s.living(key)
	for _, item := range k.dead.Items() {
		nodes = append(nodes, item.X.push)
	}
	return slices.DeleteFunc(rga.Order(nodes, key), func(e api.Event) bool {
		_, isLive := k.live.Get(e.Dot)
		return !isLive
	})
}

// Dead is how many list nodes are kept that are none's items.
func (s *Space) Dead() int {
	n := 0
	for _, k := range s.orZero().keys {
		n += k.dead.Len()
	}
	return n
}
