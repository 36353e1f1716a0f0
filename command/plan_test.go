package command

import (
	"math"
	"reflect"
	"strings"
	"testing"

	"polyphony/api"
	"polyphony/space"
)

// P22.2: texts.
func TestTextCommands(t *testing.T) {
	s := space.New()
	told(t, s, "$-1\r\n", "GET", "k")
	told(t, s, "+OK\r\n", "SET", "k", "v")
	told(t, s, "$1\r\nv\r\n", "GET", "k")
	told(t, s, "+OK\r\n", "SET", "k", "w")
	told(t, s, "$1\r\nw\r\n", "GET", "k")
	told(t, s, "+OK\r\n", "SET", "k", "")
	told(t, s, "$0\r\n\r\n", "GET", "k")
	told(t, s, "$-1\r\n", "GET", "K")
	plans(t, "SET", s, Call{Name: "SET", Key: "k", Value: "v"}, says("OK").and(api.Op{Kind: 1, Key: "k", Value: "v"}))
}

// P22.2: tallies; what may be added is layer 17's Check to tell.
func TestTallyCommands(t *testing.T) {
	s := space.New()
	told(t, s, ":0\r\n", "COUNT", "k")
	told(t, s, ":5\r\n", "INCRBY", "k", "5")
	told(t, s, ":3\r\n", "INCRBY", "k", "-2")
	told(t, s, ":3\r\n", "INCRBY", "k", "0")
	told(t, s, ":3\r\n", "COUNT", "k")
	told(t, s, ":0\r\n", "COUNT", "j")
	told(t, s, ":-4\r\n", "INCRBY", "j", "-4")
	plans(t, "INCRBY", s, Call{Name: "INCRBY", Key: "k", N: -7}, counts(-4).and(api.Op{Kind: 2, Key: "k", Num: -7}))
	for n, ok := range map[int]bool{topNum: true, -topNum: true, topNum + 1: false, -topNum - 1: false, 999999999999999: false, -999999999999999: false} {
		want := fails("OVERFLOW")
		if ok {
			want = counts(3 + n).and(api.Op{Kind: 2, Key: "k", Num: n})
		}
		plans(t, "a great number", s, Call{Name: "INCRBY", Key: "k", N: n}, want)
	}
}

// P22.2: a tally's sum stays within MaxTally, just.
func TestTallyBounds(t *testing.T) {
	for _, sign := range []int{1, -1} {
		s := space.New()
		for range topSum / topNum {
			if e := s.Apply(next(s, 0, api.Op{Kind: 2, Key: "k", Num: sign * topNum})); e != api.OK {
				t.Fatalf("Apply: %d", e)
			}
		}
		plans(t, "COUNT", s, Call{Name: "COUNT", Key: "k"}, counts(sign*topSum))
		plans(t, "at the top", s, Call{Name: "INCRBY", Key: "k", N: sign}, fails("OVERFLOW"))
		plans(t, "at the top", s, Call{Name: "INCRBY", Key: "k", N: sign * topNum}, fails("OVERFLOW"))
		plans(t, "at the top", s, Call{Name: "INCRBY", Key: "k"}, counts(sign*topSum).and(api.Op{Kind: 2, Key: "k"}))
		plans(t, "away from it", s, Call{Name: "INCRBY", Key: "k", N: -sign}, counts(sign*(topSum-1)).and(api.Op{Kind: 2, Key: "k", Num: -sign}))
		plans(t, "another one", s, Call{Name: "INCRBY", Key: "j", N: sign}, counts(sign).and(api.Op{Kind: 2, Key: "j", Num: sign}))
	}
}

// P22.2: groups.
func TestGroupCommands(t *testing.T) {
	s := space.New()
	told(t, s, "*0\r\n", "SMEMBERS", "k")
	told(t, s, ":0\r\n", "SISMEMBER", "k", "a")
	told(t, s, ":0\r\n", "SREM", "k", "a")
	told(t, s, ":1\r\n", "SADD", "k", "b")
	told(t, s, ":0\r\n", "SADD", "k", "b")
	told(t, s, ":1\r\n", "SADD", "k", "a")
	told(t, s, ":1\r\n", "SADD", "k", "")
	told(t, s, "*3\r\n$0\r\n\r\n$1\r\na\r\n$1\r\nb\r\n", "SMEMBERS", "k")
	told(t, s, ":1\r\n", "SISMEMBER", "k", "a")
	told(t, s, ":0\r\n", "SISMEMBER", "k", "A")
	told(t, s, ":0\r\n", "SISMEMBER", "j", "a")
	told(t, s, ":1\r\n", "SREM", "k", "a")
	told(t, s, ":0\r\n", "SREM", "k", "a")
	told(t, s, ":1\r\n", "SREM", "k", "")
	told(t, s, "*1\r\n$1\r\nb\r\n", "SMEMBERS", "k")
	plans(t, "SADD", s, Call{Name: "SADD", Key: "k", Field: "f"}, counts(1).and(api.Op{Kind: 3, Key: "k", Field: "f"}))
	plans(t, "SREM", s, Call{Name: "SREM", Key: "k", Field: "b"}, counts(1).and(api.Op{Kind: 4, Key: "k", Field: "b"}))
}

// P22.2: hashes.
func TestHashCommands(t *testing.T) {
	s := space.New()
	told(t, s, "*0\r\n", "HGETALL", "k")
	told(t, s, "$-1\r\n", "HGET", "k", "f")
	told(t, s, ":0\r\n", "HDEL", "k", "f")
	told(t, s, ":1\r\n", "HSET", "k", "g", "v")
	told(t, s, ":0\r\n", "HSET", "k", "g", "w")
	told(t, s, ":0\r\n", "HSET", "k", "g", "w")
	told(t, s, ":1\r\n", "HSET", "k", "f", "")
	told(t, s, "*4\r\n$1\r\nf\r\n$0\r\n\r\n$1\r\ng\r\n$1\r\nw\r\n", "HGETALL", "k")
	told(t, s, "$1\r\nw\r\n", "HGET", "k", "g")
	told(t, s, "$0\r\n\r\n", "HGET", "k", "f")
	told(t, s, "$-1\r\n", "HGET", "k", "")
	told(t, s, "$-1\r\n", "HGET", "j", "f")
	told(t, s, ":0\r\n", "HSET", "k", "f", "v")
	told(t, s, ":1\r\n", "HDEL", "k", "f")
	told(t, s, ":0\r\n", "HDEL", "k", "f")
	told(t, s, ":1\r\n", "HSET", "k", "f", "x")
	told(t, s, "*4\r\n$1\r\nf\r\n$1\r\nx\r\n$1\r\ng\r\n$1\r\nw\r\n", "HGETALL", "k")
	plans(t, "HSET", s, Call{Name: "HSET", Key: "k", Field: "h", Value: "v"}, counts(1).and(api.Op{Kind: 5, Key: "k", Field: "h", Value: "v"}))
	plans(t, "HSET", s, Call{Name: "HSET", Key: "k", Field: "f", Value: "x"}, counts(0).and(api.Op{Kind: 5, Key: "k", Field: "f", Value: "x"}))
	plans(t, "HDEL", s, Call{Name: "HDEL", Key: "k", Field: "f"}, counts(1).and(api.Op{Kind: 6, Key: "k", Field: "f"}))
}

// P22.2: members with scores.
func TestScoreCommands(t *testing.T) {
	s := space.New()
	told(t, s, "*0\r\n", "ZRANGE", "k", "0", "-1")
	told(t, s, "$-1\r\n", "ZSCORE", "k", "a")
	told(t, s, "$-1\r\n", "ZRANK", "k", "a")
	told(t, s, ":0\r\n", "ZREM", "k", "a")
	told(t, s, ":1\r\n", "ZADD", "k", "7", "a")
	told(t, s, ":1\r\n", "ZADD", "k", "-12", "c")
	told(t, s, ":1\r\n", "ZADD", "k", "-12", "b")
	told(t, s, ":1\r\n", "ZADD", "k", "0", "")
	told(t, s, ":0\r\n", "ZADD", "k", "2", "a")
	told(t, s, "$1\r\n2\r\n", "ZSCORE", "k", "a")
	told(t, s, "$3\r\n-12\r\n", "ZSCORE", "k", "c")
	told(t, s, "$1\r\n0\r\n", "ZSCORE", "k", "")
	told(t, s, ":0\r\n", "ZRANK", "k", "b")
	told(t, s, ":1\r\n", "ZRANK", "k", "c")
	told(t, s, ":3\r\n", "ZRANK", "k", "a")
	told(t, s, "$-1\r\n", "ZRANK", "k", "d")
	told(t, s, "$-1\r\n", "ZSCORE", "j", "a")
	told(t, s, "*4\r\n$1\r\nb\r\n$1\r\nc\r\n$0\r\n\r\n$1\r\na\r\n", "ZRANGE", "k", "0", "-1")
	told(t, s, "*2\r\n$0\r\n\r\n$1\r\na\r\n", "ZRANGE", "k", "-2", "9")
	told(t, s, "*1\r\n$1\r\nc\r\n", "ZRANGE", "k", "1", "1")
	told(t, s, "*2\r\n$1\r\nb\r\n$1\r\nc\r\n", "ZRANGE", "k", "-999999999999999", "1")
	told(t, s, "*0\r\n", "ZRANGE", "k", "2", "1")
	told(t, s, "*0\r\n", "ZRANGE", "k", "4", "999999999999999")
	told(t, s, ":1\r\n", "ZREM", "k", "b")
	told(t, s, ":0\r\n", "ZREM", "k", "b")
	told(t, s, ":0\r\n", "ZRANK", "k", "c")
	plans(t, "ZADD", s, Call{Name: "ZADD", Key: "k", Field: "f", N: -3}, counts(1).and(api.Op{Kind: 7, Key: "k", Field: "f", Num: -3}))
	plans(t, "ZADD", s, Call{Name: "ZADD", Key: "k", Field: "a", N: 2}, counts(0).and(api.Op{Kind: 7, Key: "k", Field: "a", Num: 2}))
	plans(t, "ZREM", s, Call{Name: "ZREM", Key: "k", Field: "a"}, counts(1).and(api.Op{Kind: 8, Key: "k", Field: "a"}))
	for n, ok := range map[int]bool{topNum: true, -topNum: true, topNum + 1: false, -topNum - 1: false, 999999999999999: false, -999999999999999: false} {
		for f, is := range map[string]int{"a": 0, "new": 1} {
			want := fails("OVERFLOW")
			if ok {
				want = counts(is).and(api.Op{Kind: 7, Key: "k", Field: f, Num: n})
			}
			plans(t, "a great score", s, Call{Name: "ZADD", Key: "k", Field: f, N: n}, want)
		}
	}
}

// P22.2: lists.
func TestListCommands(t *testing.T) {
	s := space.New()
	told(t, s, "*0\r\n", "LRANGE", "k", "0", "-1")
	told(t, s, ":0\r\n", "LREM", "k", "0")
	told(t, s, "-RANGE\r\n", "LINSERT", "k", "1", "x")
	told(t, s, ":1\r\n", "LINSERT", "k", "0", "b")
	told(t, s, ":2\r\n", "LPUSH", "k", "a")
	told(t, s, ":3\r\n", "RPUSH", "k", "d")
	told(t, s, ":4\r\n", "LINSERT", "k", "2", "c")
	told(t, s, ":5\r\n", "LINSERT", "k", "4", "")
	told(t, s, ":6\r\n", "LINSERT", "k", "0", "z")
	told(t, s, "-RANGE\r\n", "LINSERT", "k", "7", "x")
	told(t, s, "-RANGE\r\n", "LINSERT", "k", "-1", "x")
	told(t, s, "-RANGE\r\n", "LINSERT", "k", "999999999999999", "x")
	told(t, s, "*6\r\n$1\r\nz\r\n$1\r\na\r\n$1\r\nb\r\n$1\r\nc\r\n$1\r\nd\r\n$0\r\n\r\n", "LRANGE", "k", "0", "-1")
	told(t, s, "*2\r\n$1\r\nd\r\n$0\r\n\r\n", "LRANGE", "k", "-2", "100")
	told(t, s, "*0\r\n", "LRANGE", "k", "3", "2")
	told(t, s, "*0\r\n", "LRANGE", "k", "6", "6")
	told(t, s, ":0\r\n", "LREM", "k", "6")
	told(t, s, ":0\r\n", "LREM", "k", "-1")
	told(t, s, ":1\r\n", "LREM", "k", "5")
	told(t, s, ":1\r\n", "LREM", "k", "0")
	told(t, s, ":1\r\n", "LREM", "k", "1")
	told(t, s, "*3\r\n$1\r\na\r\n$1\r\nc\r\n$1\r\nd\r\n", "LRANGE", "k", "0", "-1")
	told(t, s, ":0\r\n", "LREM", "k", "3")
	told(t, s, ":4\r\n", "LINSERT", "k", "1", "y")
	told(t, s, "*4\r\n$1\r\na\r\n$1\r\ny\r\n$1\r\nc\r\n$1\r\nd\r\n", "LRANGE", "k", "-99", "99")
}

// P22.2: what a push hangs on, and what is taken away: items' dots, not the dead nodes' between them.
func TestListOps(t *testing.T) {
	s := filled(t, "RPUSH k a", "RPUSH k b", "RPUSH k c", "LREM k 1")
	push := func(n int) api.Op { return api.Op{Kind: 9, Key: "k", Value: "v", Ref: api.Dot{N: n}} }
	first := api.Op{Kind: 9, Key: "k", Value: "v"}
	plans(t, "LPUSH", s, Call{Name: "LPUSH", Key: "k", Value: "v"}, counts(3).and(first))
	plans(t, "RPUSH", s, Call{Name: "RPUSH", Key: "k", Value: "v"}, counts(3).and(push(3)))
	plans(t, "LINSERT", s, Call{Name: "LINSERT", Key: "k", Value: "v"}, counts(3).and(first))
	plans(t, "LINSERT", s, Call{Name: "LINSERT", Key: "k", Value: "v", N: 1}, counts(3).and(push(1)))
	plans(t, "LINSERT", s, Call{Name: "LINSERT", Key: "k", Value: "v", N: 2}, counts(3).and(push(3)))
	plans(t, "LREM", s, Call{Name: "LREM", Key: "k"}, counts(1).and(api.Op{Kind: 10, Key: "k", Ref: api.Dot{N: 1}}))
	plans(t, "LREM", s, Call{Name: "LREM", Key: "k", N: 1}, counts(1).and(api.Op{Kind: 10, Key: "k", Ref: api.Dot{N: 3}}))
	first.Key = "j"
	for _, name := range []string{"LPUSH", "RPUSH", "LINSERT"} {
		plans(t, "into none", s, Call{Name: name, Key: "j", Value: "v"}, counts(1).and(first))
	}
}

// P22.2: what is of any type.
func TestKeyCommands(t *testing.T) {
	s := ofEachType(t)
	told(t, s, "*6\r\n$5\r\ngroup\r\n$4\r\nhash\r\n$4\r\nlist\r\n$5\r\nscore\r\n$5\r\ntally\r\n$4\r\ntext\r\n", "KEYS")
	for key, word := range map[string]string{"text": "string", "tally": "tally", "group": "set", "hash": "hash", "score": "zset", "list": "list", "gone": "none", "nowhere": "none"} {
		plans(t, "TYPE", s, Call{Name: "TYPE", Key: key}, says(word))
		want := counts(1).and(api.Op{Kind: 11, Key: key})
		if word == "none" {
			want = counts(0)
		}
		plans(t, "DEL", s, Call{Name: "DEL", Key: key}, want)
	}
	for _, key := range []string{"text", "tally", "group", "hash", "score", "list"} {
		told(t, s, ":1\r\n", "DEL", key)
		told(t, s, ":0\r\n", "DEL", key)
		told(t, s, "+none\r\n", "TYPE", key)
	}
	told(t, s, "*0\r\n", "KEYS")
}

// P22.2: a key of another type is refused, by each command, ahead of all else; one that was there, and isn't, isn't.
func TestWrongType(t *testing.T) {
	s := ofEachType(t)
	for _, name := range names() {
		want := specs[name]
		for is, key := range []string{"nowhere", "text", "tally", "group", "hash", "score", "list", "gone"} {
			for _, n := range []string{"0", "-1", "99", "999999999999999"} {
				args := []string{name}
				for _, part := range want.parts {
					args = append(args, map[string]string{"k": key, "f": "a", "v": "v", "n": n, "m": "9"}[part])
				}
				c := asked(t, args...)
				other := want.is != 0 && is%7 != 0 && is != want.is
				if r, op, ok := Plan(s, c); other != (r.Text == "WRONGTYPE") || other && (ok || op != api.Op{}) {
					t.Errorf("%q of a key of the type %d: %+v, %v, %t", args, is%7, r, op, ok)
				}
				if other {
					plans(t, "another type", s, c, fails("WRONGTYPE"))
				}
			}
		}
	}
}

// P22.2: the type is that of what was added last; behind a Del a key may have any type.
func TestTypeOfTheLatest(t *testing.T) {
	a, b := space.New(), space.New()
	_, one := does(t, a, 0, "SET", "k", "v")
	_, two := does(t, b, 1, "SADD", "k", "f")
	if a.Apply(two) != api.OK || b.Apply(one) != api.OK {
		t.Fatal("Apply")
	}
	for _, s := range []*space.Space{a, b} {
		told(t, s, "-WRONGTYPE\r\n", "GET", "k")
		told(t, s, ":1\r\n", "SREM", "k", "f")
		told(t, s, "-WRONGTYPE\r\n", "SMEMBERS", "k")
		told(t, s, "$1\r\nv\r\n", "GET", "k")
		told(t, s, ":1\r\n", "DEL", "k")
		told(t, s, ":1\r\n", "LPUSH", "k", "x")
		told(t, s, "+list\r\n", "TYPE", "k")
	}
}

// P22.2: of a call of no such name it is ERR; names are in capitals.
func TestNoSuchCall(t *testing.T) {
	for _, s := range []*space.Space{nil, {}, space.New(), ofEachType(t)} {
		for _, name := range []string{"", "get", "Get", "NOPE", "GET ", "SETS", "SE", "\x00", many(1000, "K")} {
			plans(t, "no such name", s, Call{Name: name, Key: "text", Field: "f", Value: "v", N: 1, M: 2}, fails("ERR"))
		}
	}
}

// refuses holds what is told of an error.
func refuses(t *testing.T, e api.Errno, text string) {
	t.Helper()
	if got := (answer{r: Refuse(e)}); !reflect.DeepEqual(got.listed(), fails(text).listed()) {
		t.Errorf("Refuse(%d) = %+v, want %q", e, got.r, text)
	}
}

// P22.3: each error's word.
func TestRefuse(t *testing.T) {
	for e, word := range strings.Fields("ok arg short form long sum over none type full lost state arity int unknown down") {
		refuses(t, api.Errno(e), "ERR "+word)
	}
	for _, e := range []api.Errno{-1, 16, 17, 255, 256, 1 << 32, -1 << 32, math.MinInt, math.MaxInt} {
		refuses(t, e, "ERR ?")
	}
}
