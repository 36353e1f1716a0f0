package command

import (
	"math"
	"reflect"
	"slices"
	"testing"

	"polyphony/api"
	"polyphony/resp"
	"polyphony/space"
)

// odd is calls of each name, most of them none that Parse tells.
func odd() []Call {
	var l []Call
	for _, name := range append(names(), "", "set", "NOPE") {
		for _, key := range []string{"", "text", "tally", "group", "hash", "score", "list", "gone", many(1000, "x")} {
			for _, n := range []int{0, 1, -1, 2, 3, 4, topNum, topNum + 1, math.MaxInt, math.MinInt} {
				l = append(l, Call{Name: name, Key: key, N: n, M: -n},
					Call{Name: name, Key: key, Field: "a", Value: many(100, "v"), N: n, M: math.MaxInt},
					Call{Name: name, Key: key, Field: many(65, "f"), N: n, M: math.MinInt})
			}
		}
	}
	return l
}

// R1: Plan ends, and doesn't panic, of calls that Parse never tells, too; R2, P22.4: what does nothing tells no operation,
// what reads does nothing, and the space stays as it was.
func TestOddCalls(t *testing.T) {
	for _, s := range []*space.Space{nil, {}, ofEachType(t)} {
		was := s.Encode()
		for _, c := range odd() {
			r, op, ok := Plan(s, c)
			if !ok && op != (api.Op{}) || ok && (reads(c.Name) || r.Kind == resp.Error) || r.Kind < 1 || r.Kind > 6 {
				t.Fatalf("Plan of %.80v: %v, %v, %t", c, r, op, ok)
			}
		}
		if s.Encode() != was {
			t.Fatal("Plan changed the space")
		}
	}
}

// R2: each field of a reply that its kind doesn't use is zero.
func TestOnlyUsed(t *testing.T) {
	s := ofEachType(t)
	for _, c := range odd() {
		r, _, _ := Plan(s, c)
		used := resp.Reply{Kind: r.Kind}
		switch r.Kind {
		case resp.Simple, resp.Error, resp.Bulk:
			used.Text = r.Text
		case resp.Int:
			used.Num = r.Num
		case resp.Array:
			used.List = r.List
		}
		if !reflect.DeepEqual(r, used) {
			t.Fatalf("Plan of %.80v: %+v", c, r)
		}
	}
}

// R3: lists that are told share nothing with one another, or with what is kept.
func TestListsAreNew(t *testing.T) {
	s := ofEachType(t)
	was := s.Encode()
	for _, args := range [][]string{{"KEYS"}, {"SMEMBERS", "group"}, {"HGETALL", "hash"}, {"ZRANGE", "score", "0", "1"}, {"LRANGE", "list", "0", "1"}} {
		c := asked(t, args...)
		one, _, _ := Plan(s, c)
		two, _, _ := Plan(s, c)
		want := slices.Clone(two.List)
		if len(want) < 2 {
			t.Fatalf("%q: %q: this tests nothing", args, want)
		}
		for i := range one.List {
			one.List[i] = "x"
		}
		_ = append(one.List[:1], "y", "y", "y")
		three, _, _ := Plan(s, c)
		if !slices.Equal(two.List, want) || !slices.Equal(three.List, want) || s.Encode() != was {
			t.Fatalf("%q: %q became %q, and %q", args, want, two.List, three.List)
		}
	}
}

// R6: another space, and what was parsed and refused ahead, play no part.
func TestNothingElseCounts(t *testing.T) {
	s, other := ofEachType(t), filled(t, "SET k w", "LPUSH list y")
	for _, name := range names() {
		args := []string{name}
		for _, part := range specs[name].parts {
			args = append(args, map[string]string{"k": "list", "f": "a", "v": "v", "n": "1", "m": "-1"}[part])
		}
		c := asked(t, args...)
		want := answer{}
		want.r, want.op, want.does = Plan(s, c)
		Parse([]string{"NOPE"})
		Parse([]string{name, "", many(65, "x")})
		does(t, other, 3, args...)
		Plan(nil, c)
		Refuse(3)
		if again := asked(t, args...); again != c {
			t.Fatalf("Parse(%q) = %+v, and then %+v", args, c, again)
		}
		plans(t, "again", s, c, want)
	}
}
