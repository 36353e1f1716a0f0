package command

import (
	"math"
	"slices"
	"strconv"
	"testing"

	"polyphony/api"
	"polyphony/event"
	"polyphony/resp"
	"polyphony/space"
)

// replica is a space, and all events that it has seen, in its order.
type replica struct {
	s   *space.Space
	all []api.Event
}

// pull lets a replica see what another one has seen, up to so many events.
func (r *replica) pull(t *testing.T, other *replica, most int) {
	t.Helper()
	for _, e := range other.all {
		if most == 0 {
			return
		}
		if !r.s.Ready(e) {
			continue
		}
		if fault := r.s.Apply(e); fault != api.OK {
			t.Fatalf("Apply(%v): %d", e, fault)
		}
		r.all = append(r.all, e)
		most--
	}
}

// args is a command that Parse tells; most of the time of a key that is of its type.
func (s *dice) args() []string {
	name := pick(s, append(names(), "SADD", "HSET", "ZADD", "ZADD", "RPUSH", "LINSERT")...)
	of := specs[name]
	key := pick(s, "k", pick(s, "", "text", "tally", "group", "hash", "score", "list")+pick(s, "1", "2"))
	if of.is != 0 && s.roll(4) > 0 {
		key = []string{"text", "tally", "group", "hash", "score", "list"}[of.is-1]
	}
	n := func() string {
		return strconv.Itoa(pick(s, s.roll(8)-2, s.roll(8)-2, s.roll(4), topNum-s.roll(2), topNum+1, -topNum-s.roll(2), 999999999999999, -999999999999999))
	}
	args := []string{name}
	for _, part := range of.parts {
		switch part {
		case "k":
			args = append(args, key)
		case "f":
			args = append(args, pick(s, "", "a", "b", "c", "\xff\x00"))
		case "v":
			args = append(args, pick(s, "", "v", "w", "x", many(64, "y"), string([]byte{byte(s.roll(256))})))
		default:
			args = append(args, n())
		}
	}
	return args
}

// does lets a replica do a command; what is told of it is held against what all events tell that it has seen.
func (r *replica) does(t *testing.T, self int, args []string) answer {
	t.Helper()
	c := asked(t, args...)
	want := plainPlan(r.all, c).listed()
	plans(t, "a replica", r.s, c, want)
	if !want.does {
		return want
	}
	e := next(r.s, self, want.op)
	if !event.Right(e) {
		t.Fatalf("%q makes an event that can't be: %v", args, e)
	}
	if fault := r.s.Apply(e); fault != api.OK {
		t.Fatalf("%q: Apply(%v): %d", args, e, fault)
	}
	r.all = append(r.all, e)
	came(t, r.s, args, want.r)
	return want
}

// came holds that what a command did is what is told behind it.
func came(t *testing.T, s *space.Space, args []string, r resp.Reply) {
	t.Helper()
	key := args[1]
	switch args[0] {
	case "SET":
		plans(t, "behind SET", s, asked(t, "GET", key), text(args[2]))
	case "INCRBY":
		plans(t, "behind INCRBY", s, asked(t, "COUNT", key), counts(r.Num))
	case "SADD":
		plans(t, "behind SADD", s, asked(t, "SISMEMBER", key, args[2]), counts(1))
	case "HSET":
		plans(t, "behind HSET", s, asked(t, "HGET", key, args[2]), text(args[3]))
	case "ZADD":
		plans(t, "behind ZADD", s, asked(t, "ZSCORE", key, args[3]), text(args[2]))
	case "LPUSH":
		plans(t, "behind LPUSH", s, asked(t, "LRANGE", key, "0", "0"), texts(args[2]))
	case "RPUSH":
		plans(t, "behind RPUSH", s, asked(t, "LRANGE", key, "-1", "-1"), texts(args[2]))
		plans(t, "behind RPUSH", s, asked(t, "LREM", key, strconv.Itoa(r.Num)), counts(0))
	case "LINSERT":
		plans(t, "behind LINSERT", s, asked(t, "LRANGE", key, args[2], args[2]), texts(args[3]))
	case "DEL":
		plans(t, "behind DEL", s, asked(t, "TYPE", key), says("none"))
	case "SREM", "HDEL", "ZREM":
		if slices.Contains(s.Members(key), args[2]) {
			t.Fatalf("behind %q it is still a member", args)
		}
		if plan, _, _ := Plan(s, asked(t, "HGET", key, args[2])); plan.Kind == resp.Bulk {
			t.Fatalf("behind %q it is still there: %+v", args, plan)
		}
		if plan, _, _ := Plan(s, asked(t, "ZRANK", key, args[2])); plan.Kind == resp.Int {
			t.Fatalf("behind %q it is still there: %+v", args, plan)
		}
	}
}

// reads is whether a command only reads.
func reads(name string) bool {
	return slices.Contains([]string{"GET", "COUNT", "SISMEMBER", "SMEMBERS", "HGET", "HGETALL", "ZSCORE", "ZRANK", "ZRANGE", "LRANGE", "TYPE", "KEYS"}, name)
}

// outcomes is how often which kind of answer came of which command.
type outcomes map[string]int

// count counts an answer.
func (o outcomes) count(name string, a answer) {
	switch {
	case a.r.Kind == resp.Error:
		o[name+" "+a.r.Text]++
	case a.r.Kind == resp.Int && a.r.Num <= 1:
		o[name+" "+strconv.Itoa(a.r.Num)]++
	case a.r.Kind == resp.Array && len(a.r.List) == 0:
		o[name+" none"]++
	default:
		o[name+" "+strconv.Itoa(a.r.Kind)]++
	}
}

// all holds that each answer came at all that may come.
func (o outcomes) all(t *testing.T) {
	t.Helper()
	for _, s := range []string{"SET 1", "GET 4", "GET 5", "INCRBY 3", "INCRBY OVERFLOW", "COUNT 3", "COUNT 0",
		"SADD 0", "SADD 1", "SREM 0", "SREM 1", "SISMEMBER 0", "SISMEMBER 1", "SMEMBERS 6", "SMEMBERS none",
		"HSET 0", "HSET 1", "HDEL 0", "HDEL 1", "HGET 4", "HGET 5", "HGETALL 6", "HGETALL none",
		"ZADD 0", "ZADD 1", "ZADD OVERFLOW", "ZREM 0", "ZREM 1", "ZSCORE 4", "ZSCORE 5", "ZRANK 0", "ZRANK 1", "ZRANK 3", "ZRANK 5", "ZRANGE 6", "ZRANGE none",
		"LPUSH 1", "LPUSH 3", "RPUSH 1", "RPUSH 3", "LINSERT 1", "LINSERT 3", "LINSERT RANGE", "LREM 0", "LREM 1", "LRANGE 6", "LRANGE none",
		"DEL 0", "DEL 1", "TYPE 1", "KEYS 6"} {
		if o[s] == 0 {
			t.Errorf("%q never came: this tests little", s)
		}
	}
	for _, name := range names() {
		if specs[name].is != 0 && o[name+" WRONGTYPE"] == 0 {
			t.Errorf("%s was never of another type: this tests little", name)
		}
	}
}

// P22.2, P22.4: of replicas that do what comes, and see what others did now and then, each command is told and does
// what all events tell that its replica has seen, whatever was collected.
func TestReplicas(t *testing.T) {
	seed := dice(22)
	seen := outcomes{}
	for range 40 {
		var all []*replica
		for range 2 + seed.roll(3) {
			all = append(all, &replica{s: space.New()})
		}
		for range 3 {
			for range 50 {
				self := seed.roll(len(all))
				if seed.roll(4) == 0 {
					all[self].pull(t, pick(&seed, all...), pick(&seed, 1, 3, -1))
					continue
				}
				args := seed.args()
				seen.count(args[0], all[self].does(t, self, args))
			}
			meet(t, &seed, all)
		}
	}
	seen.all(t)
}

// meet lets all see what all have seen; then they tell the same, and collecting doesn't change that.
func meet(t *testing.T, seed *dice, all []*replica) {
	t.Helper()
	for range 2 {
		for _, r := range all {
			for _, other := range all {
				r.pull(t, other, -1)
			}
		}
	}
	for _, r := range all {
		if r.s.VV() != all[0].s.VV() {
			t.Fatalf("they have seen %v, and %v: this tests nothing", r.s.VV(), all[0].s.VV())
		}
	}
	for i := range 20 {
		c := asked(t, seed.args()...)
		for _, r := range all {
			// By the events in the first one's order, in which no other one has seen them.
			plans(t, "having met", r.s, c, plainPlan(all[0].all, c))
		}
		if i == 9 {
			for _, r := range all {
				r.s.Collect(r.s.VV())
			}
		}
	}
}

// tops is spaces at their bounds: numbers, times and sums that are as great as they can be.
func tops(t *testing.T) []*space.Space {
	t.Helper()
	full := ofEachType(t)
	again, e := space.Decode(full.Encode())
	if e != api.OK {
		t.Fatalf("Decode: %d", e)
	}
	late := space.New()
	for i, key := range []string{"tally", "list", "tally", "list"} {
		op := api.Op{Kind: 9, Key: key, Value: many(64, "z")}
		if key == "tally" {
			op = api.Op{Kind: 2, Key: key, Num: topNum}
		}
		ev := api.Event{Dot: api.Dot{R: 15 - i, N: 1}, Time: 1<<60 - 1, Deps: late.VV(), Op: op}
		if e := late.Apply(ev); e != api.OK {
			t.Fatalf("Apply: %d", e)
		}
	}
	return []*space.Space{nil, {}, space.New(), full, again, late, over(t)}
}

// over is a space whose tally is above MaxTally: two replicas counted up to it, neither of which had seen the other one.
func over(t *testing.T) *space.Space {
	t.Helper()
	s := space.New()
	for r := range 2 {
		var deps api.VV
		for n := range 600 {
			deps[r] = n
			ev := api.Event{Dot: api.Dot{R: r, N: n + 1}, Time: n, Deps: deps, Op: api.Op{Kind: 2, Key: "tally", Num: topNum}}
			if e := s.Apply(ev); e != api.OK {
				t.Fatalf("Apply: %d", e)
			}
		}
	}
	return s
}

// P22.4: what reads does nothing, and what is done makes an event that can be, whatever the space is: of all replicas,
// at all times.
func TestWhatIsDone(t *testing.T) {
	seed := dice(4)
	for at, s := range tops(t) {
		for i := range 400 {
			if at == 6 && i == 60 {
				break // its tally is long
			}
			args := seed.args()
			r, op, ok := Plan(s, asked(t, args...))
			if ok && (reads(args[0]) || r.Kind == resp.Error) || !ok && op != (api.Op{}) {
				t.Fatalf("the space %d: %q: %+v, %v, %t", at, args, r, op, ok)
			}
			if r.Kind < resp.Simple || r.Kind > resp.Array {
				t.Fatalf("the space %d: %q: %+v", at, args, r)
			}
			for self := range api.MaxReplicas {
				deps := s.VV()
				for _, time := range []int{0, 1<<60 - 1} {
					e := api.Event{Dot: api.Dot{R: self, N: deps[self] + 1}, Time: time, Deps: deps, Op: op}
					if ok && !event.Right(e) {
						t.Fatalf("the space %d: %q makes an event that can't be: %v", at, args, e)
					}
				}
			}
		}
	}
}

// P22.2: of a tally that is above MaxTally what leads back within its bounds may be counted, and no less.
func TestTallyOver(t *testing.T) {
	s := over(t)
	sum := 1200 * topNum
	plans(t, "above", s, Call{Name: "COUNT", Key: "tally"}, counts(sum))
	for _, n := range []int{0, 1, -1, -topNum, topNum} {
		plans(t, "above", s, Call{Name: "INCRBY", Key: "tally", N: n}, fails("OVERFLOW"))
	}
}

// P22.4: of nil, which has seen nothing, no number is let through that no event can have.
func TestNilSpace(t *testing.T) {
	for _, s := range []*space.Space{nil, {}, space.New()} {
		for _, n := range []int{topNum + 1, -topNum - 1, 999999999999999, -999999999999999, math.MaxInt, math.MinInt} {
			plans(t, "of nothing", s, Call{Name: "INCRBY", Key: "k", N: n}, fails("OVERFLOW"))
		}
		for _, name := range names() {
			args := []string{name}
			for _, part := range specs[name].parts {
				args = append(args, map[string]string{"k": "k", "f": "f", "v": "v", "n": "0", "m": "0"}[part])
			}
			c := asked(t, args...)
			plans(t, "of nothing", s, c, plainPlan(nil, c))
		}
	}
}
