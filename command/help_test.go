package command

import (
	"reflect"
	"regexp"
	"slices"
	"strconv"
	"strings"
	"testing"

	"polyphony/api"
	"polyphony/event"
	"polyphony/field"
	"polyphony/live"
	"polyphony/member"
	"polyphony/reg"
	"polyphony/resp"
	"polyphony/rga"
	"polyphony/score"
	"polyphony/space"
	"polyphony/tally"
)

// The limits, as the document says them.
const (
	mostText = 64
	topNum   = 1 << 40
	topSum   = 1 << 50
)

// dice is numbers that look like no pattern, the same ones each time.
type dice uint32

func (s *dice) roll(n int) int {
	*s = *s*1664525 + 1013904223
	return int(*s>>8) % n
}

// pick is one of several things.
func pick[T any](s *dice, l ...T) T { return l[s.roll(len(l))] }

func many(n int, c string) string { return strings.Repeat(c, n) }

// spec is a command by the document's table: what stands behind its name, and its type.
type spec struct {
	parts []string
	is    int
}

// specs is the document's table.
var specs = func() map[string]spec {
	all := map[string]spec{}
	for is, group := range []string{
		"DEL k|TYPE k|KEYS",
		"SET k v|GET k",
		"INCRBY k n|COUNT k",
		"SADD k f|SREM k f|SISMEMBER k f|SMEMBERS k",
		"HSET k f v|HDEL k f|HGET k f|HGETALL k",
		"ZADD k n f|ZREM k f|ZSCORE k f|ZRANK k f|ZRANGE k n m",
		"LPUSH k v|RPUSH k v|LINSERT k n v|LREM k n|LRANGE k n m",
	} {
		for _, line := range strings.Split(group, "|") {
			words := strings.Fields(line)
			all[words[0]] = spec{words[1:], is}
		}
	}
	return all
}()

// names is the commands' names, in order.
func names() []string {
	var l []string
	for name := range specs {
		l = append(l, name)
	}
	slices.Sort(l)
	return l
}

var (
	isWhole = regexp.MustCompile(`^(0|-?[1-9][0-9]{0,14})$`)
	small   = regexp.MustCompile(`[a-z]`)
)

// plainParse is Parse by the document's words.
func plainParse(args []string) (Call, api.Errno) {
	if len(args) == 0 {
		return Call{}, 12
	}
	c := Call{Name: string(small.ReplaceAllFunc([]byte(args[0]), func(b []byte) []byte { return []byte{b[0] - 32} }))}
	of, ok := specs[c.Name]
	if !ok {
		return Call{}, 14
	}
	if len(args) != len(of.parts)+1 {
		return Call{}, 12
	}
	for i, part := range of.parts {
		s := args[i+1]
		isNumber := part == "n" || part == "m"
		switch {
		case part == "k" && s == "":
			return Call{}, 1
		case !isNumber && len(s) > mostText:
			return Call{}, 4
		case isNumber && !isWhole.MatchString(s):
			return Call{}, 13
		}
		n, _ := strconv.Atoi(s)
		switch part {
		case "k":
			c.Key = s
		case "f":
			c.Field = s
		case "v":
			c.Value = s
		case "n":
			c.N = n
		case "m":
			c.M = n
		}
	}
	return c, 0
}

// parses holds Parse, told twice, against what it shall answer, and against the document's words.
func parses(t *testing.T, args []string, want Call, e api.Errno) {
	t.Helper()
	in := slices.Clone(args)
	for range 2 {
		if c, fault := Parse(in); c != want || fault != e {
			t.Fatalf("Parse(%.80q) = %+v, %d, want %+v, %d", args, c, fault, want, e)
		}
	}
	if !slices.Equal(in, args) {
		t.Fatalf("Parse changed %.80q", args)
	}
	if c, fault := plainParse(args); c != want || fault != e {
		t.Fatalf("of %.80q the words tell %+v, %d, not %+v, %d: this tests nothing", args, c, fault, want, e)
	}
}

// parsesAsWords holds Parse against the document's words.
func parsesAsWords(t *testing.T, args []string) api.Errno {
	t.Helper()
	want, e := plainParse(args)
	parses(t, args, want, e)
	return e
}

// asked is a call that Parse tells.
func asked(t *testing.T, args ...string) Call {
	t.Helper()
	c, e := Parse(args)
	if e != api.OK {
		t.Fatalf("Parse(%q): %d", args, e)
	}
	return c
}

// answer is all that Plan answers.
type answer struct {
	r    resp.Reply
	op   api.Op
	does bool
}

// listed is an answer whose list isn't nil: nil and empty are alike.
func (a answer) listed() answer {
	a.r.List = append([]string{}, a.r.List...)
	return a
}

func says(word string) answer  { return answer{r: resp.Reply{Kind: 1, Text: word}} }
func fails(text string) answer { return answer{r: resp.Reply{Kind: 2, Text: text}} }
func counts(n int) answer      { return answer{r: resp.Reply{Kind: 3, Num: n}} }
func text(s string) answer     { return answer{r: resp.Reply{Kind: 4, Text: s}} }
func nothing() answer          { return answer{r: resp.Reply{Kind: 5}} }
func texts(l ...string) answer { return answer{r: resp.Reply{Kind: 6, List: l}} }
func (a answer) and(op api.Op) answer {
	a.op, a.does = op, true
	return a
}

// ifSo is an answer of 1, and what is done; or of 0, and nothing done.
func ifSo(so bool, op api.Op) answer {
	if so {
		return counts(1).and(op)
	}
	return counts(0)
}

// plans holds Plan, told twice, against what it shall answer; the space stays as it was.
func plans(t *testing.T, what string, s *space.Space, c Call, want answer) {
	t.Helper()
	was := s.Encode()
	for range 2 {
		var got answer
		got.r, got.op, got.does = Plan(s, c)
		if !reflect.DeepEqual(got.listed(), want.listed()) {
			t.Fatalf("%s: Plan of %+v: %+v, want %+v", what, c, got, want)
		}
	}
	if s.Encode() != was {
		t.Fatalf("%s: Plan of %+v changed the space", what, c)
	}
}

// next is the event that a replica makes of an operation: later than all that it has seen.
func next(s *space.Space, r int, op api.Op) api.Event {
	v := s.VV()
	return api.Event{Dot: api.Dot{R: r, N: v[r] + 1}, Time: s.Time() + 1, Deps: v, Op: op}
}

// does lets a space see what a replica's command does, and tells all that Plan answers; what is done must be an event
// that can be.
func does(t *testing.T, s *space.Space, r int, args ...string) (answer, api.Event) {
	t.Helper()
	var a answer
	a.r, a.op, a.does = Plan(s, asked(t, args...))
	if !a.does {
		if a.op != (api.Op{}) {
			t.Fatalf("%q does nothing, and tells %v", args, a.op)
		}
		return a, api.Event{}
	}
	e := next(s, r, a.op)
	if !event.Right(e) {
		t.Fatalf("%q makes an event that can't be: %v", args, e)
	}
	if fault := s.Apply(e); fault != api.OK {
		t.Fatalf("%q: Apply(%v): %d", args, e, fault)
	}
	return a, e
}

// told holds the bytes that a space's client is told of a command, which is done.
func told(t *testing.T, s *space.Space, want string, args ...string) {
	t.Helper()
	a, _ := does(t, s, 0, args...)
	if got := string(resp.Encode(a.r)); got != want {
		t.Fatalf("%q: %q, want %q", args, got, want)
	}
}

// filled is a space in which replica 0 has done commands.
func filled(t *testing.T, commands ...string) *space.Space {
	t.Helper()
	s := space.New()
	for _, c := range commands {
		does(t, s, 0, strings.Fields(c)...)
	}
	return s
}

// ofEachType is a space with a key of each type, and one that was there.
func ofEachType(t *testing.T) *space.Space {
	t.Helper()
	return filled(t, "SET text v", "INCRBY tally 5", "SADD group b", "SADD group a", "HSET hash g w", "HSET hash f v",
		"ZADD score 2 a", "ZADD score 1 c", "ZADD score 1 b", "RPUSH list a", "RPUSH list b", "RPUSH list c",
		"LPUSH gone x", "DEL gone")
}

// plainPlan is Plan by the document's words, told from all events that were seen (layers 10 to 16).
func plainPlan(all []api.Event, c Call) answer {
	want, ok := specs[c.Name]
	if !ok {
		return fails("ERR")
	}
	is := live.Type(all, c.Key)
	if want.is != 0 && is != 0 && is != want.is {
		return fails("WRONGTYPE")
	}
	of := live.Of(all, c.Key)
	op := api.Op{Key: c.Key, Field: c.Field, Value: c.Value}
	switch want.is {
	case 1, 2:
		return plainNumber(of, c, op)
	case 3:
		return plainGroup(of, c, op)
	case 4:
		return plainHash(of, c, op)
	case 5:
		return plainScore(of, c, op)
	case 6:
		return plainList(all, c, op)
	}
	switch c.Name {
	case "DEL":
		op.Kind = 11
		return ifSo(is != 0, op)
	case "TYPE":
		return says(strings.Fields("none string tally set hash zset list")[is])
	}
	return texts(live.Keys(all)...)
}

func plainNumber(of []api.Event, c Call, op api.Op) answer {
	sum := tally.Sum(of)
	switch c.Name {
	case "SET":
		op.Kind = 1
		return says("OK").and(op)
	case "GET":
		if v, ok := reg.Value(of); ok {
			return text(v)
		}
		return nothing()
	case "COUNT":
		return counts(sum)
	}
	if c.N < -topNum || c.N > topNum || sum+c.N < -topSum || sum+c.N > topSum {
		return fails("OVERFLOW")
	}
	op.Kind, op.Num = 2, c.N
	return counts(sum + c.N).and(op)
}

func plainGroup(of []api.Event, c Call, op api.Op) answer {
	there := member.Has(of, c.Field)
	switch c.Name {
	case "SADD":
		op.Kind = 3
		return ifSo(!there, op)
	case "SREM":
		op.Kind = 4
		return ifSo(there, op)
	case "SISMEMBER":
		if there {
			return counts(1)
		}
		return counts(0)
	}
	return texts(member.All(of)...)
}

func plainHash(of []api.Event, c Call, op api.Op) answer {
	v, there := field.Get(of, c.Field)
	switch c.Name {
	case "HSET":
		op.Kind = 5
		if there {
			return counts(0).and(op)
		}
		return counts(1).and(op)
	case "HDEL":
		op.Kind = 6
		return ifSo(there, op)
	case "HGET":
		if there {
			return text(v)
		}
		return nothing()
	}
	var l []string
	for _, p := range field.All(of) {
		l = append(l, p.Field, p.Value)
	}
	return texts(l...)
}

func plainScore(of []api.Event, c Call, op api.Op) answer {
	n, there := score.Get(of, c.Field)
	rank, _ := score.Rank(of, c.Field)
	switch c.Name {
	case "ZADD":
		op.Kind, op.Num = 7, c.N
		switch {
		case c.N < -topNum || c.N > topNum:
			return fails("OVERFLOW")
		case there:
			return counts(0).and(op)
		}
		return counts(1).and(op)
	case "ZREM":
		op.Kind = 8
		return ifSo(there, op)
	case "ZRANGE":
		var l []string
		for _, p := range score.All(of) {
			l = append(l, p.Member)
		}
		from, to := score.Span(len(l), c.N, c.M)
		return texts(l[from:to]...)
	}
	switch {
	case !there:
		return nothing()
	case c.Name == "ZSCORE":
		return text(strconv.Itoa(n))
	}
	return counts(rank)
}

func plainList(all []api.Event, c Call, op api.Op) answer {
	var items []api.Event
	if live.Type(all, c.Key) == 6 {
		items = rga.Items(all, c.Key)
	}
	at := c.N
	switch c.Name {
	case "LREM":
		if at < 0 || at >= len(items) {
			return counts(0)
		}
		op.Kind, op.Ref = 10, items[at].Dot
		return counts(1).and(op)
	case "LRANGE":
		var l []string
		from, to := score.Span(len(items), c.N, c.M)
		for _, e := range items[from:to] {
			l = append(l, e.Op.Value)
		}
		return texts(l...)
	case "LPUSH":
		at = 0
	case "RPUSH":
		at = len(items)
	}
	if at < 0 || at > len(items) {
		return fails("RANGE")
	}
	op.Kind = 9
	op.Ref, _ = rga.Anchor(all, c.Key, at)
	return counts(len(items) + 1).and(op)
}
