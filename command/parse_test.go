package command

import (
	"math"
	"slices"
	"strconv"
	"strings"
	"testing"

	"polyphony/api"
)

// The document's examples.
func TestParseExamples(t *testing.T) {
	parses(t, []string{"incrby", "k", "-5"}, Call{Name: "INCRBY", Key: "k", N: -5}, api.OK)
	parses(t, []string{"GET"}, Call{}, api.ErrArity)
	parses(t, []string{"INCRBY", "k", "007"}, Call{}, api.ErrInt)
}

// P22.1: each command's arguments, and where they go.
func TestParse(t *testing.T) {
	for _, c := range []struct {
		args string
		want Call
	}{
		{"SET k v", Call{Name: "SET", Key: "k", Value: "v"}},
		{"GET k", Call{Name: "GET", Key: "k"}},
		{"INCRBY k 7", Call{Name: "INCRBY", Key: "k", N: 7}},
		{"COUNT k", Call{Name: "COUNT", Key: "k"}},
		{"SADD k f", Call{Name: "SADD", Key: "k", Field: "f"}},
		{"SREM k f", Call{Name: "SREM", Key: "k", Field: "f"}},
		{"SISMEMBER k f", Call{Name: "SISMEMBER", Key: "k", Field: "f"}},
		{"SMEMBERS k", Call{Name: "SMEMBERS", Key: "k"}},
		{"HSET k f v", Call{Name: "HSET", Key: "k", Field: "f", Value: "v"}},
		{"HDEL k f", Call{Name: "HDEL", Key: "k", Field: "f"}},
		{"HGET k f", Call{Name: "HGET", Key: "k", Field: "f"}},
		{"HGETALL k", Call{Name: "HGETALL", Key: "k"}},
		{"ZADD k 7 f", Call{Name: "ZADD", Key: "k", Field: "f", N: 7}},
		{"ZREM k f", Call{Name: "ZREM", Key: "k", Field: "f"}},
		{"ZSCORE k f", Call{Name: "ZSCORE", Key: "k", Field: "f"}},
		{"ZRANK k f", Call{Name: "ZRANK", Key: "k", Field: "f"}},
		{"ZRANGE k 7 -8", Call{Name: "ZRANGE", Key: "k", N: 7, M: -8}},
		{"LPUSH k v", Call{Name: "LPUSH", Key: "k", Value: "v"}},
		{"RPUSH k v", Call{Name: "RPUSH", Key: "k", Value: "v"}},
		{"LINSERT k 7 v", Call{Name: "LINSERT", Key: "k", Value: "v", N: 7}},
		{"LREM k 7", Call{Name: "LREM", Key: "k", N: 7}},
		{"LRANGE k 7 -8", Call{Name: "LRANGE", Key: "k", N: 7, M: -8}},
		{"DEL k", Call{Name: "DEL", Key: "k"}},
		{"TYPE k", Call{Name: "TYPE", Key: "k"}},
		{"KEYS", Call{Name: "KEYS"}},
	} {
		args := strings.Fields(c.args)
		parses(t, args, c.want, api.OK)
		args[0] = strings.ToLower(args[0])
		parses(t, args, c.want, api.OK)
		args[0] = args[0][:1] + strings.ToUpper(args[0][1:])
		parses(t, args, c.want, api.OK)
	}
}

// P22.1: how many arguments there may be is asked ahead of what they are, and behind the name.
func TestArity(t *testing.T) {
	parses(t, nil, Call{}, api.ErrArity)
	parses(t, []string{}, Call{}, api.ErrArity)
	for _, name := range names() {
		for n := range 12 {
			for _, arg := range []string{"1", "k", "", many(65, "x")} {
				e := parsesAsWords(t, append([]string{name}, slices.Repeat([]string{arg}, n)...))
				if right := n == len(specs[name].parts); right == (e == api.ErrArity) {
					t.Fatalf("%s of %d arguments %q: %d", name, n, arg, e)
				}
			}
		}
	}
	for n := range 12 {
		parses(t, append([]string{"NOPE"}, slices.Repeat([]string{""}, n)...), Call{}, api.ErrUnknown)
	}
}

// P22.1: names are just those of the table; of the alphabet only a to z count as capitals.
func TestNames(t *testing.T) {
	for _, name := range []string{"", " ", "NOPE", "SE", "SETS", " SET", "SET ", "SET\r", "GET\n", "GE\x00T", "*", "GETALL", "GETGET", "MGET",
		"\u017fet", "key\u017f", "s\u0131smember", "zran\u212a", "\uff27ET", "K\xc5\x85YS", "\xe7ET", "INCR", "ZADDS", "INCRBY k 1"} {
		for _, rest := range [][]string{nil, {"k"}, {"k", "1"}, {"k", "1", "1"}} {
			parses(t, append([]string{name}, rest...), Call{}, api.ErrUnknown)
		}
	}
	for _, name := range names() {
		args := append([]string{name}, slices.Repeat([]string{"1"}, len(specs[name].parts))...)
		for at := range len(name) {
			for c := range 256 {
				b := []byte(name)
				b[at] = byte(c)
				args[0] = string(b)
				parsesAsWords(t, args)
			}
			args[0] = name[:at]
			parsesAsWords(t, args)
		}
	}
}

// P22.1: whole numbers, and what looks like some; a number that is none in each place where one stands.
func TestWholeNumbers(t *testing.T) {
	is := map[string]int{"0": 0, "1": 1, "-1": -1, "9": 9, "10": 10, "-10": -10, "100": 100, "1234567890": 1234567890,
		"999999999999999": 999999999999999, "-999999999999999": -999999999999999, "100000000000000": 100000000000000, "-100000000000000": -100000000000000}
	for s, n := range is {
		parses(t, []string{"INCRBY", "k", s}, Call{Name: "INCRBY", Key: "k", N: n}, api.OK)
		parses(t, []string{"ZADD", "k", s, s}, Call{Name: "ZADD", Key: "k", Field: s, N: n}, api.OK)
		parses(t, []string{"ZRANGE", "k", "3", s}, Call{Name: "ZRANGE", Key: "k", N: 3, M: n}, api.OK)
		parses(t, []string{"LRANGE", "k", s, "4"}, Call{Name: "LRANGE", Key: "k", N: n, M: 4}, api.OK)
	}
	for _, s := range []string{"", "-", "+", "--1", "-+1", "+1", "+0", "-0", "00", "-00", "01", "-01", "007", "000000000000000", "0000000000000001",
		"1000000000000000", "-1000000000000000", "9999999999999999", "9223372036854775807", "-9223372036854775808", "9223372036854775808",
		"18446744073709551617", many(65, "1"), many(1000, "0"), " 1", "1 ", "1\n", "\r1", "1\x00", "1.0", "1.", ".1", "1e3", "0x1", "0b1", "0o1", "1_0", "1,0",
		"a", "1a", "a1", "/", ":", "1/", "1:", "\u0661", "\uff11", "\u22121", "NaN", "inf", "\xff"} {
		parses(t, []string{"INCRBY", "k", s}, Call{}, api.ErrInt)
		parses(t, []string{"ZADD", "k", s, "f"}, Call{}, api.ErrInt)
		parses(t, []string{"ZRANGE", "k", s, "1"}, Call{}, api.ErrInt)
		parses(t, []string{"ZRANGE", "k", "1", s}, Call{}, api.ErrInt)
		parses(t, []string{"LINSERT", "k", s, "v"}, Call{}, api.ErrInt)
		parses(t, []string{"LREM", "k", s}, Call{}, api.ErrInt)
		parses(t, []string{"LRANGE", "k", s, "1"}, Call{}, api.ErrInt)
		parses(t, []string{"LRANGE", "k", "1", s}, Call{}, api.ErrInt)
	}
	for _, n := range []int{math.MaxInt, math.MinInt, 1 << 40, 1 << 50} {
		parsesAsWords(t, []string{"LREM", "k", strconv.Itoa(n)})
	}
	for a := range 256 {
		for b := range 256 {
			parsesAsWords(t, []string{"LREM", "k", string([]byte{byte(a), byte(b)})})
		}
	}
}

// P22.1: texts of up to MaxText bytes, empty ones but for the key; any bytes.
func TestTexts(t *testing.T) {
	for _, s := range []string{"", " ", "\r\n", "\x00\xff\xfe", "ä", many(63, "x"), many(64, "\xff"), many(65, "x"), many(64, "ä"), many(1000, "x")} {
		fits := api.OK
		if len(s) > 64 {
			fits = api.ErrLong
		}
		of := func(c Call) Call {
			if fits != api.OK {
				return Call{}
			}
			return c
		}
		parses(t, []string{"SET", "k", s}, of(Call{Name: "SET", Key: "k", Value: s}), fits)
		parses(t, []string{"HSET", "k", s, "v"}, of(Call{Name: "HSET", Key: "k", Field: s, Value: "v"}), fits)
		parses(t, []string{"HSET", "k", "f", s}, of(Call{Name: "HSET", Key: "k", Field: "f", Value: s}), fits)
		parses(t, []string{"ZADD", "k", "1", s}, of(Call{Name: "ZADD", Key: "k", Field: s, N: 1}), fits)
		parses(t, []string{"LINSERT", "k", "1", s}, of(Call{Name: "LINSERT", Key: "k", Value: s, N: 1}), fits)
		if s == "" {
			parses(t, []string{"GET", s}, Call{}, api.ErrArg)
			continue
		}
		parses(t, []string{"GET", s}, of(Call{Name: "GET", Key: s}), fits)
	}
}

// P22.1: of several faults the first one from the left is told.
func TestFromTheLeft(t *testing.T) {
	long := many(65, "x")
	for _, c := range []struct {
		args []string
		want api.Errno
	}{
		{[]string{"HSET", "", long, long}, api.ErrArg},
		{[]string{"HSET", long, "", ""}, api.ErrLong},
		{[]string{"INCRBY", "", "x"}, api.ErrArg},
		{[]string{"INCRBY", long, "x"}, api.ErrLong},
		{[]string{"ZADD", "k", "x", long}, api.ErrInt},
		{[]string{"ZADD", "k", long, long}, api.ErrInt},
		{[]string{"LINSERT", "k", "01", long}, api.ErrInt},
		{[]string{"LINSERT", "k", "1", long}, api.ErrLong},
		{[]string{"ZADD", "", "x", long}, api.ErrArg},
		{[]string{"LRANGE", long, "x", "x"}, api.ErrLong},
	} {
		parses(t, c.args, Call{}, c.want)
	}
	args := []string{"", "k", "1", "-1", "-0", "f o", many(64, "y"), long, many(65, "1")}
	for _, name := range names() {
		n := len(specs[name].parts)
		for i := range int(math.Pow(float64(len(args)), float64(n))) {
			l := []string{name}
			for range n {
				l = append(l, args[i%len(args)])
				i /= len(args)
			}
			parsesAsWords(t, l)
		}
	}
}

// R3: what lies behind the arguments' list isn't read.
func TestParseWithinTheList(t *testing.T) {
	all := []string{"SET", "k", "v", "x"}
	parses(t, all[:3], Call{Name: "SET", Key: "k", Value: "v"}, api.OK)
	parses(t, all[:2], Call{}, api.ErrArity)
	parses(t, all[:0], Call{}, api.ErrArity)
	if !slices.Equal(all, []string{"SET", "k", "v", "x"}) {
		t.Errorf("it became %q", all)
	}
}
