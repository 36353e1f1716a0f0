package command

import (
	"slices"
	"strconv"

	"polyphony/api"
	"polyphony/field"
	"polyphony/score"
	"polyphony/space"
)

// What each row of the table plans. Key and type were asked already: a key that there is has the command's type.

func setText(s *space.Space, c Call) outcome {
	return do(simple("OK"), api.Op{Kind: api.Set, Key: c.Key, Value: c.Value})
}

func getText(s *space.Space, c Call) outcome {
	text, ok := s.Text(c.Key)
	return tell(bulkIf(ok, text))
}

func countUp(s *space.Space, c Call) outcome {
	if s.Check(c.Key, c.N) != api.OK {
		return fail("OVERFLOW")
	}
	return do(whole(s.Sum(c.Key)+c.N), api.Op{Kind: api.Incr, Key: c.Key, Num: c.N})
}

func tellSum(s *space.Space, c Call) outcome {
	return tell(whole(s.Sum(c.Key)))
}

// isMember tells whether a group has the call's member.
func isMember(s *space.Space, c Call) bool {
	return slices.Contains(s.Members(c.Key), c.Field)
}

func addMember(s *space.Space, c Call) outcome {
	return doIf(!isMember(s, c), api.Op{Kind: api.SAdd, Key: c.Key, Field: c.Field})
}

func removeMember(s *space.Space, c Call) outcome {
	return doIf(isMember(s, c), api.Op{Kind: api.SRem, Key: c.Key, Field: c.Field})
}

func tellMember(s *space.Space, c Call) outcome {
	return tell(isIt(isMember(s, c)))
}

func tellMembers(s *space.Space, c Call) outcome {
	return tell(array(s.Members(c.Key)))
}

// valueOf is the value of the call's field, if a hash has it.
func valueOf(s *space.Space, c Call) (string, bool) {
	fields := s.Fields(c.Key)
	at := slices.IndexFunc(fields, func(p field.Pair) bool { return p.Field == c.Field })
	if at < 0 {
		return "", false
	}
	return fields[at].Value, true
}

func setField(s *space.Space, c Call) outcome {
	_, ok := valueOf(s, c)
	return do(isIt(!ok), api.Op{Kind: api.HSet, Key: c.Key, Field: c.Field, Value: c.Value})
}

func removeField(s *space.Space, c Call) outcome {
	_, ok := valueOf(s, c)
	return doIf(ok, api.Op{Kind: api.HDel, Key: c.Key, Field: c.Field})
}

func getField(s *space.Space, c Call) outcome {
	value, ok := valueOf(s, c)
	return tell(bulkIf(ok, value))
}

func tellFields(s *space.Space, c Call) outcome {
	var l []string
	for _, p := range s.Fields(c.Key) {
		l = append(l, p.Field, p.Value)
	}
	return tell(array(l))
}

// placeOf is the score and the rank of the call's member, if it has a score.
func placeOf(s *space.Space, c Call) (int, int, bool) {
	scores := s.Scores(c.Key)
	at := slices.IndexFunc(scores, func(p score.Pair) bool { return p.Member == c.Field })
	if at < 0 {
		return 0, 0, false
	}
	return scores[at].Score, at, true
}

func setScore(s *space.Space, c Call) outcome {
	if c.N < -api.MaxNum || c.N > api.MaxNum {
		return fail("OVERFLOW")
	}
	_, _, ok := placeOf(s, c)
	return do(isIt(!ok), api.Op{Kind: api.ZAdd, Key: c.Key, Field: c.Field, Num: c.N})
}

func removeScore(s *space.Space, c Call) outcome {
	_, _, ok := placeOf(s, c)
	return doIf(ok, api.Op{Kind: api.ZRem, Key: c.Key, Field: c.Field})
}

func tellScore(s *space.Space, c Call) outcome {
	n, _, ok := placeOf(s, c)
	return tell(bulkIf(ok, strconv.Itoa(n)))
}

func tellRank(s *space.Space, c Call) outcome {
	_, at, ok := placeOf(s, c)
	if !ok {
		return tell(none())
	}
	return tell(whole(at))
}

func tellRanks(s *space.Space, c Call) outcome {
	scores := s.Scores(c.Key)
	from, to := score.Span(len(scores), c.N, c.M)
	var l []string
	for _, p := range scores[from:to] {
		l = append(l, p.Member)
	}
	return tell(array(l))
}

func pushFirst(s *space.Space, c Call) outcome {
	return push(s.Items(c.Key), 0, c)
}

func pushLast(s *space.Space, c Call) outcome {
	items := s.Items(c.Key)
	return push(items, len(items), c)
}

func pushAt(s *space.Space, c Call) outcome {
	return push(s.Items(c.Key), c.N, c)
}

// push is the outcome of a command that pushes the call's value to a place among items.
func push(items []api.Event, at int, c Call) outcome {
	if at < 0 || at > len(items) {
		return fail("RANGE")
	}
	op := api.Op{Kind: api.Push, Key: c.Key, Value: c.Value}
	if at > 0 {
		op.Ref = items[at-1].Dot
	}
	return do(whole(len(items)+1), op)
}

func removeItem(s *space.Space, c Call) outcome {
	items := s.Items(c.Key)
	if c.N < 0 || c.N >= len(items) {
		return tell(whole(0))
	}
	return do(whole(1), api.Op{Kind: api.LRem, Key: c.Key, Ref: items[c.N].Dot})
}

func tellItems(s *space.Space, c Call) outcome {
	items := s.Items(c.Key)
	from, to := score.Span(len(items), c.N, c.M)
	var l []string
	for _, e := range items[from:to] {
		l = append(l, e.Op.Value)
	}
	return tell(array(l))
}

func removeKey(s *space.Space, c Call) outcome {
	return doIf(s.Type(c.Key) != api.None, api.Op{Kind: api.Del, Key: c.Key})
}

func tellType(s *space.Space, c Call) outcome {
	// By the types' numbers, from None on.
	words := []string{"none", "string", "tally", "set", "hash", "zset", "list"}
	return tell(simple(words[s.Type(c.Key)]))
}

func tellKeys(s *space.Space, c Call) outcome {
	return tell(array(s.Keys()))
}
