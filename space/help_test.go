package space

import (
	"reflect"
	"slices"
	"testing"

	"polyphony/api"
	"polyphony/event"
	"polyphony/field"
	"polyphony/live"
	"polyphony/member"
	"polyphony/reg"
	"polyphony/rga"
	"polyphony/score"
	"polyphony/tally"
)

// The limits, as the document says them.
const (
	last    = 15
	top     = 1 << 20
	topTime = 1<<60 - 1
	topNum  = 1 << 40
	topSum  = 1 << 50
)

// dice is numbers that look like no pattern, the same ones each time.
type dice uint32

func (s *dice) roll(n int) int {
	*s = *s*1664525 + 1013904223
	return int(*s>>8) % n
}

// pick is one of several things.
func pick[T any](s *dice, l ...T) T { return l[s.roll(len(l))] }

// dot is the dot of a replica and a number.
func dot(r, n int) api.Dot { return api.Dot{R: r, N: n} }

// made is an event of a replica that has seen a vector, and all that it made itself.
func made(r, n, time int, deps api.VV, o api.Op) api.Event {
	deps[r] = n - 1
	return api.Event{Dot: dot(r, n), Time: time, Deps: deps, Op: o}
}

// The operations, by their kinds.
func set(key, value string) api.Op  { return api.Op{Kind: api.Set, Key: key, Value: value} }
func incr(key string, n int) api.Op { return api.Op{Kind: api.Incr, Key: key, Num: n} }
func sAdd(key, f string) api.Op     { return api.Op{Kind: api.SAdd, Key: key, Field: f} }
func sRem(key, f string) api.Op     { return api.Op{Kind: api.SRem, Key: key, Field: f} }
func hSet(key, f, value string) api.Op {
	return api.Op{Kind: api.HSet, Key: key, Field: f, Value: value}
}
func hDel(key, f string) api.Op            { return api.Op{Kind: api.HDel, Key: key, Field: f} }
func zAdd(key, f string, n int) api.Op     { return api.Op{Kind: api.ZAdd, Key: key, Field: f, Num: n} }
func zRem(key, f string) api.Op            { return api.Op{Kind: api.ZRem, Key: key, Field: f} }
func push(key, v string, d api.Dot) api.Op { return api.Op{Kind: api.Push, Key: key, Value: v, Ref: d} }
func lRem(key string, d api.Dot) api.Op    { return api.Op{Kind: api.LRem, Key: key, Ref: d} }
func del(key string) api.Op                { return api.Op{Kind: api.Del, Key: key} }

// root is a Push of nothing to hang on.
func root(key, v string) api.Op { return push(key, v, api.Dot{}) }

// inARow is what one replica makes: each event has seen all that stand ahead of it; times rise by one.
func inARow(r int, ops ...api.Op) []api.Event {
	var l []api.Event
	for i, o := range ops {
		l = append(l, made(r, i+1, i+1, api.VV{}, o))
	}
	return l
}

// wholeDead is a dead event of the plain space below.
type wholeDead struct {
	by api.Dot
	e  api.Event
}

// plain is a space by the document's words: lists, in the order in which things came to be.
type plain struct {
	seen api.VV
	time int
	live []api.Event
	dead []wholeDead
	all  []api.Event // all that were seen
}

// isReady is whether an event is ready, by the document's words.
func (p *plain) isReady(e api.Event) bool {
	if !event.Right(e) || e.Dot.N != p.seen[e.Dot.R]+1 {
		return false
	}
	for r, n := range e.Deps {
		if n > p.seen[r] {
			return false
		}
	}
	return true
}

// see is to see an event, by the document's words.
func (p *plain) see(e api.Event) {
	var left []api.Event
	for _, a := range p.live {
		switch {
		case !live.Ends(e, a):
			left = append(left, a)
		case a.Op.Kind == 9:
			p.dead = append(p.dead, wholeDead{e.Dot, a})
		}
	}
	switch e.Op.Kind {
	case 1, 2, 3, 5, 7, 9:
		left = append(left, e)
	}
	p.live = left
	p.seen[e.Dot.R]++
	if e.Time > p.time {
		p.time = e.Time
	}
	p.all = append(p.all, e)
}

// has is whether a vector has a dot, by layer 3's words.
func has(v api.VV, d api.Dot) bool {
	return d.R >= 0 && d.R <= last && d.N >= 1 && d.N <= top && d.N <= v[d.R]
}

// isNamed is whether a dot is the Ref of a live or dead Push event of a key.
func (p *plain) isNamed(key string, d api.Dot) bool {
	return slices.ContainsFunc(p.live, func(e api.Event) bool { return e.Op.Kind == 9 && e.Op.Key == key && e.Op.Ref == d }) ||
		slices.ContainsFunc(p.dead, func(x wholeDead) bool { return x.e.Op.Key == key && x.e.Op.Ref == d })
}

// collect is Collect by the document's words: one by one.
func (p *plain) collect(stable api.VV) int {
	gone := 0
	for {
		at := slices.IndexFunc(p.dead, func(x wholeDead) bool { return has(stable, x.by) && !p.isNamed(x.e.Op.Key, x.e.Dot) })
		if at < 0 {
			return gone
		}
		p.dead = slices.Delete(p.dead, at, at+1)
		gone++
	}
}

// before is dots' order.
func before(a, b api.Dot) int {
	if a.R != b.R {
		return a.R - b.R
	}
	return a.N - b.N
}

// text is a space's text, by the document's words.
func (p *plain) text() string {
	l := slices.Clone(p.live)
	slices.SortFunc(l, func(a, b api.Event) int { return before(a.Dot, b.Dot) })
	d := slices.Clone(p.dead)
	slices.SortFunc(d, func(a, b wholeDead) int { return before(a.e.Dot, b.e.Dot) })
	return glued(pieces(p.seen, p.time, l, d))
}

// ofKey is all that is told of a key.
type ofKey struct {
	key     string
	is      int
	text    string
	has     bool
	sum     int
	checks  []api.Errno
	members []string
	fields  []field.Pair
	scores  []score.Pair
	items   []api.Event
}

// answers is all that is told of keys, and which keys there are.
type answers struct {
	keys []string
	of   []ofKey
}

// numbers is the numbers of which is checked whether they may be added.
func numbers() []int {
	return []int{0, 1, -1, topNum, -topNum, topNum + 1, -topNum - 1, 1 << 62, -1 << 62}
}

// listed is a list that isn't nil: nil and empty are alike.
func listed[T any](l []T) []T { return append([]T{}, l...) }

// toldBy is what a space tells of keys.
func toldBy(s *Space, keys []string) answers {
	all := answers{keys: listed(s.Keys())}
	for _, key := range keys {
		k := ofKey{key: key, is: s.Type(key), sum: s.Sum(key)}
		k.text, k.has = s.Text(key)
		for _, n := range numbers() {
			k.checks = append(k.checks, s.Check(key, n))
		}
		k.members, k.fields = listed(s.Members(key)), listed(s.Fields(key))
		k.scores, k.items = listed(s.Scores(key)), listed(s.Items(key))
		all.of = append(all.of, k)
	}
	return all
}

// toldOf is what the layers 10 to 16 tell of all events.
func toldOf(l []api.Event, keys []string) answers {
	all := answers{keys: listed(live.Keys(l))}
	for _, key := range keys {
		of := live.Of(l, key)
		k := ofKey{key: key, is: live.Type(l, key)}
		k.members, k.fields, k.scores, k.items = []string{}, []field.Pair{}, []score.Pair{}, []api.Event{}
		var tallied []api.Event
		switch k.is {
		case 1:
			k.text, k.has = reg.Value(of)
		case 2:
			k.sum, tallied = tally.Sum(of), of
		case 3:
			k.members = listed(member.All(of))
		case 4:
			k.fields = listed(field.All(of))
		case 5:
			k.scores = listed(score.All(of))
		case 6:
			k.items = listed(rga.Items(l, key))
		}
		for _, n := range numbers() {
			k.checks = append(k.checks, tally.Check(tallied, n))
		}
		all.of = append(all.of, k)
	}
	return all
}

// alike holds what is told against what shall be.
func alike(t *testing.T, what string, got, want answers) {
	t.Helper()
	if !reflect.DeepEqual(got, want) {
		t.Fatalf("%s: told is\n%+v, not\n%+v", what, got, want)
	}
}

// keysOf is the keys of events, and some others, each once.
func keysOf(l []api.Event) []string {
	all := []string{"", "k", "j", "nowhere"}
	for _, e := range l {
		all = append(all, e.Op.Key)
	}
	slices.Sort(all)
	return slices.Compact(all)
}

// both is a space, and a plain one that is told the same.
type both struct {
	s *Space
	p plain
}

// begun is both, having seen nothing.
func begun() *both { return &both{s: New()} }

// is holds all that the space tells against what the layers tell of all events that were seen, and its text against
// what the plain one has.
func (b *both) is(t *testing.T, what string) {
	t.Helper()
	b.keeps(t, what)
	keys := keysOf(b.p.all)
	alike(t, what, toldBy(b.s, keys), toldOf(b.p.all, keys))
}

// keeps holds what the space has, and tells of that, against what the plain one has: where much was collected that others
// named later on this isn't what all events that were seen tell.
func (b *both) keeps(t *testing.T, what string) {
	t.Helper()
	if b.s.VV() != b.p.seen || b.s.Time() != b.p.time {
		t.Fatalf("%s: it has seen %v, %d, not %v, %d", what, b.s.VV(), b.s.Time(), b.p.seen, b.p.time)
	}
	if got, want := b.s.Encode(), b.p.text(); got != want {
		t.Fatalf("%s: the text is %q, not %q", what, got, want)
	}
	if b.s.Dead() != len(b.p.dead) {
		t.Fatalf("%s: dead %d, not %d", what, b.s.Dead(), len(b.p.dead))
	}
	keys := keysOf(b.p.all)
	alike(t, what, toldBy(b.s, keys), b.p.told(keys))
}

// told is what a space tells of keys, by the document's words.
func (p *plain) told(keys []string) answers {
	all := toldOf(p.live, keys)
	nodes := slices.Clone(p.live)
	for _, x := range p.dead {
		nodes = append(nodes, x.e)
	}
	for i, k := range all.of {
		if k.is == 6 {
			all.of[i].items = slices.DeleteFunc(rga.Order(nodes, k.key), func(e api.Event) bool { return !slices.Contains(p.live, e) })
		}
	}
	return all
}

// see lets both see events that are ready.
func (b *both) see(t *testing.T, l ...api.Event) {
	t.Helper()
	for _, e := range l {
		if !b.p.isReady(e) {
			t.Fatalf("%v isn't ready: this tests nothing", e)
		}
		if !b.s.Ready(e) {
			t.Fatalf("%v isn't ready", e)
		}
		if fault := b.s.Apply(e); fault != api.OK {
			t.Fatalf("Apply(%v): %d", e, fault)
		}
		b.p.see(e)
	}
}

// refuses holds that an event is answered by an error, and changes nothing.
func (b *both) refuses(t *testing.T, what string, e api.Event, want api.Errno) {
	t.Helper()
	if b.s.Ready(e) {
		t.Errorf("%s: %v is ready", what, e)
	}
	if fault := b.s.Apply(e); fault != want {
		t.Errorf("%s: Apply(%v): %d, not %d", what, e, fault, want)
	}
	b.keeps(t, what)
}

// collects holds Collect against the plain one's.
func (b *both) collects(t *testing.T, what string, stable api.VV) int {
	t.Helper()
	want := b.p.collect(stable)
	if got := b.s.Collect(stable); got != want {
		t.Fatalf("%s: Collect(%v): %d, not %d", what, stable, got, want)
	}
	return want
}

// values is the values of events, one behind the other.
func values(l []api.Event) string {
	s := ""
	for _, e := range l {
		s += e.Op.Value
	}
	return s
}

// history is what replicas make that now and then see what others have seen: events of every kind that can be, each
// behind all that it has seen. Times follow nothing.
func (s *dice) history(steps int, replicas ...int) []api.Event {
	var l []api.Event
	var seen [api.MaxReplicas]api.VV
	for range steps {
		r, other := pick(s, replicas...), pick(s, replicas...)
		if s.roll(3) == 0 {
			for i, n := range seen[other] {
				seen[r][i] = max(seen[r][i], n)
			}
			continue
		}
		e := made(r, seen[r][r]+1, s.roll(len(l)+3), seen[r], s.op(pick(s, "k", "k", "j", "i"), refs(l, seen[r])))
		l = append(l, e)
		seen[r][r]++
	}
	return l
}

// refs is the events that a vector has, Push events more than once.
func refs(l []api.Event, seen api.VV) []api.Event {
	var all []api.Event
	for _, e := range l {
		if has(seen, e.Dot) {
			all = append(all, e)
		}
		if has(seen, e.Dot) && e.Op.Kind == api.Push {
			all = append(all, e, e, e, e, e, e)
		}
	}
	return all
}

// op is some operation, that may name one of some events, most of the time one of its own key.
func (s *dice) op(key string, refs []api.Event) api.Op {
	f, v := pick(s, "", "f", "g", "a field"), string(rune('a'+s.roll(26)))
	n := pick(s, 0, 1, -1, 7, topNum, -topNum)
	if len(refs) > 0 && s.roll(3) > 0 {
		ref := pick(s, refs...)
		if s.roll(5) > 0 {
			key = ref.Op.Key
		}
		return pick(s, push(key, v, ref.Dot), push(key, v, ref.Dot), lRem(key, ref.Dot))
	}
	return pick(s, set(key, v), set(key, v), incr(key, n), incr(key, n), sAdd(key, f), sAdd(key, f), sRem(key, f),
		hSet(key, f, v), hSet(key, f, v), hDel(key, f), zAdd(key, f, n), zAdd(key, f, n), zRem(key, f),
		root(key, v), root(key, v), del(key), del(key))
}

// mixed is events in another order in which each is ready, if they were so.
func (s *dice) mixed(t *testing.T, l []api.Event) []api.Event {
	t.Helper()
	left := slices.Clone(l)
	var p plain
	for len(left) > 0 {
		var ready []int
		for i, e := range left {
			if p.isReady(e) {
				ready = append(ready, i)
			}
		}
		if len(ready) == 0 {
			t.Fatalf("none of %v is ready: this tests nothing", left)
		}
		at := pick(s, ready...)
		p.see(left[at])
		left = slices.Delete(left, at, at+1)
	}
	return p.all
}
