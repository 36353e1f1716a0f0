package space

import (
	"fmt"
	"slices"
	"strconv"
	"strings"
	"testing"

	"polyphony/api"
	"polyphony/field"
	"polyphony/score"
)

// ofEachType is one event or two for each type, of a key of its own.
func ofEachType() []api.Op {
	return []api.Op{
		set("text", "a"), set("text", "b"), incr("tally", 7), incr("tally", -2), sAdd("group", "b"), sAdd("group", "a"), sAdd("group", ""),
		hSet("hash", "g", "2"), hSet("hash", "f", "1"), zAdd("score", "a", 2), zAdd("score", "b", -1), zAdd("score", "c", 2),
		root("list", "x"), root("list", "y"), del("none"),
	}
}

// P17.2: a key of each type, and one of none.
func TestEachType(t *testing.T) {
	b := begun()
	b.see(t, inARow(7, ofEachType()...)...)
	b.is(t, "each type")
	s := b.s
	if got := s.Keys(); !slices.Equal(got, []string{"group", "hash", "list", "score", "tally", "text"}) {
		t.Errorf("Keys: %q", got)
	}
	for key, want := range map[string]int{"none": 0, "": 0, "nowhere": 0, "text": 1, "tally": 2, "group": 3, "hash": 4, "score": 5, "list": 6} {
		if s.Type(key) != want {
			t.Errorf("Type of %q: %d, not %d", key, s.Type(key), want)
		}
		v, ok := s.Text(key)
		if want == 1 && (v != "b" || !ok) || want != 1 && (v != "" || ok) {
			t.Errorf("Text of %q: %q, %t", key, v, ok)
		}
		if n := s.Sum(key); want == 2 && n != 5 || want != 2 && n != 0 {
			t.Errorf("Sum of %q: %d", key, n)
		}
		if l := s.Members(key); want == 3 && !slices.Equal(l, []string{"", "a", "b"}) || want != 3 && len(l) != 0 {
			t.Errorf("Members of %q: %q", key, l)
		}
		if l := s.Fields(key); want == 4 && !slices.Equal(l, []field.Pair{{Field: "f", Value: "1"}, {Field: "g", Value: "2"}}) || want != 4 && len(l) != 0 {
			t.Errorf("Fields of %q: %q", key, l)
		}
		scores := []score.Pair{{Member: "b", Score: -1}, {Member: "a", Score: 2}, {Member: "c", Score: 2}}
		if l := s.Scores(key); want == 5 && !slices.Equal(l, scores) || want != 5 && len(l) != 0 {
			t.Errorf("Scores of %q: %v", key, l)
		}
		if l := s.Items(key); want == 6 && values(l) != "yx" || want != 6 && len(l) != 0 {
			t.Errorf("Items of %q: %v", key, l)
		}
	}
}

// P17.2: of a key of several types at once the latest one counts, and only what is of this type is told.
func TestSeveralTypesAtOnce(t *testing.T) {
	ops := []api.Op{set("k", "v"), incr("k", 3), sAdd("k", "f"), hSet("k", "f", "v"), zAdd("k", "f", 4), root("k", "a")}
	for first := range ops {
		b := begun()
		for i, o := range ops {
			// The latest one comes in whatever place.
			b.see(t, made(i, 1, 1+(i+first)%len(ops), api.VV{}, o))
			b.is(t, "one more")
		}
		latest := (len(ops) - 1 - first)
		if b.s.Type("k") != latest+1 || len(b.s.Keys()) != 1 {
			t.Errorf("Type: %d, not %d", b.s.Type("k"), latest+1)
		}
		// As soon as it is ended the next one counts.
		v := b.s.VV()
		b.see(t, made(9, 1, 99, api.VV{1, 1, 1}, del("k")))
		b.is(t, "some ended")
		b.see(t, made(10, 1, 99, v, del("k")))
		b.is(t, "all ended")
		if b.s.Type("k") != 0 || len(b.s.Keys()) != 0 {
			t.Errorf("Type behind Del: %d", b.s.Type("k"))
		}
	}
}

// P17.2: a list that is another type for a while keeps its nodes, but tells no items meanwhile.
func TestListThatIsNone(t *testing.T) {
	b := begun()
	l := inARow(0, root("k", "a"), push("k", "b", dot(0, 1)), set("k", "t"))
	b.see(t, l...)
	b.is(t, "a text")
	if len(b.s.Items("k")) != 0 || b.s.Type("k") != api.Text {
		t.Errorf("Items of a text: %v", b.s.Items("k"))
	}
	b.see(t, made(0, 4, 9, api.VV{}, push("k", "c", dot(0, 1))))
	b.is(t, "a list again")
	if got := values(b.s.Items("k")); got != "acb" {
		t.Errorf("Items: %q", got)
	}
}

// P17.2: what hangs on dead ones stands where it stood; what was pushed behind one that was dead then, too.
func TestItemsBehindDead(t *testing.T) {
	b := begun()
	b.see(t, inARow(0, root("k", "a"), root("k", "b"), push("k", "c", dot(0, 1)), push("k", "d", dot(0, 3)))...)
	b.see(t, made(0, 5, 5, api.VV{}, lRem("k", dot(0, 1))), made(0, 6, 6, api.VV{}, lRem("k", dot(0, 3))))
	b.is(t, "two ended")
	if got := values(b.s.Items("k")); got != "bd" {
		t.Errorf("Items: %q", got)
	}
	// Replica 1 hadn't seen that a and c were ended.
	b.see(t, made(1, 1, 9, api.VV{4}, push("k", "e", dot(0, 1))), made(1, 2, 10, api.VV{4}, push("k", "f", dot(0, 3))))
	b.is(t, "two behind dead ones")
	if got := values(b.s.Items("k")); got != "befd" {
		t.Errorf("Items: %q", got)
	}
}

// P17.2: what hangs on a dot of another key, of no Push, or isn't later than what it names, hangs on none.
func TestItemsBehindOthers(t *testing.T) {
	b := begun()
	b.see(t, inARow(0, root("j", "x"), set("k", "t"), root("k", "a"), root("k", "b"))...)
	b.see(t, made(1, 1, 9, api.VV{4}, push("k", "c", dot(0, 1))), made(1, 2, 8, api.VV{4}, push("k", "d", dot(0, 2))))
	b.see(t, made(1, 3, 3, api.VV{4}, push("k", "e", dot(0, 4))), made(1, 4, 0, api.VV{4}, push("k", "f", dot(0, 3))))
	b.is(t, "behind others")
	if got := values(b.s.Items("k")); got != "cdbeaf" {
		t.Errorf("Items: %q", got)
	}
}

// P17.2: Check of a tally, of another type, and of nothing.
func TestCheck(t *testing.T) {
	b := begun()
	n := 0
	for range topSum/topNum - 1 {
		n++
		b.see(t, made(0, n, n, api.VV{}, incr("tally", topNum)))
	}
	// As much is counted of a key that is a text by now.
	for range topSum / topNum {
		n++
		b.see(t, made(0, n, n, api.VV{}, incr("text", topNum)))
	}
	b.see(t, made(0, n+1, n+1, api.VV{}, set("text", "v")), made(0, n+2, n+2, api.VV{}, incr("down", -topNum)))
	for _, c := range []struct {
		key  string
		n    int
		want api.Errno
	}{
		{"tally", topNum, api.OK}, {"tally", topNum + 1, api.ErrOver}, {"tally", -topNum, api.OK}, {"tally", -topNum - 1, api.ErrOver},
		{"text", topNum, api.OK}, {"text", topNum + 1, api.ErrOver}, {"text", -topNum, api.OK}, {"text", -topNum - 1, api.ErrOver},
		{"nowhere", topNum, api.OK}, {"nowhere", topNum + 1, api.ErrOver}, {"nowhere", 0, api.OK}, {"", 1, api.OK}, {"", -topNum - 1, api.ErrOver},
		{"down", topNum, api.OK}, {"down", -topNum, api.OK},
	} {
		if got := b.s.Check(c.key, c.n); got != c.want {
			t.Errorf("Check of %q, %d: %d, not %d", c.key, c.n, got, c.want)
		}
	}
	b.see(t, made(0, n+3, n+3, api.VV{}, incr("tally", 1)))
	if b.s.Sum("tally") != topSum-topNum+1 || b.s.Check("tally", topNum) != api.ErrOver || b.s.Check("tally", topNum-1) != api.OK {
		t.Errorf("Sum %d", b.s.Sum("tally"))
	}
	b.see(t, made(0, n+4, n+4, api.VV{}, del("tally")))
	if b.s.Sum("tally") != 0 || b.s.Check("tally", topNum) != api.OK {
		t.Errorf("Sum behind Del: %d", b.s.Sum("tally"))
	}
}

// P17.2: keys rise byte by byte, whatever order they came in; those with dead events alone aren't there.
func TestKeys(t *testing.T) {
	keys := []string{"b", "a", "\xff", "aa", "B", "\x00", "é", "a\x00", strings.Repeat("z", 64), "dead"}
	for _, kind := range []api.Op{set("", "v"), incr("", 1), sAdd("", ""), hSet("", "", ""), zAdd("", "", 0), root("", "")} {
		b := begun()
		for i, key := range keys {
			kind.Key = key
			b.see(t, made(i, 1, 9-i%3, api.VV{}, kind))
		}
		b.see(t, made(11, 1, 0, b.p.seen, del("dead")))
		b.is(t, "many keys")
		if got := fmt.Sprintf("%q", b.s.Keys()); got != fmt.Sprintf("%q", []string{"\x00", "B", "a", "a\x00", "aa", "b", keys[8], "é", "\xff"}) {
			t.Errorf("Keys: %s", got)
		}
	}
}

// P17.2: Dead counts the dead ones of all keys.
func TestDead(t *testing.T) {
	b := begun()
	for i := range 12 {
		key := strconv.Itoa(i % 4)
		b.see(t, made(0, i+1, i, api.VV{}, root(key, "v")))
	}
	for i := range 4 {
		b.see(t, made(1, i+1, i, api.VV{12}, del(strconv.Itoa(i))))
		b.is(t, "one key less")
		if b.s.Dead() != 3*(i+1) {
			t.Errorf("Dead: %d", b.s.Dead())
		}
	}
}

// P17.2: a space with very many events of one key tells it still.
func TestMany(t *testing.T) {
	s, many := New(), 20000
	for i := range many {
		ref := api.Dot{}
		if i%100 > 0 {
			ref = dot(0, 2*i-1)
		}
		if s.Apply(made(0, 2*i+1, 2*i, api.VV{}, push("k", "v", ref))) != api.OK || s.Apply(made(0, 2*i+2, 2*i+1, api.VV{}, incr("n", 3))) != api.OK {
			t.Fatal("Apply")
		}
	}
	if len(s.Items("k")) != many || s.Sum("n") != 3*many {
		t.Errorf("%d items, the sum %d", len(s.Items("k")), s.Sum("n"))
	}
	u := decodes(t, "many", s.Encode(), api.OK)
	for _, x := range []*Space{s, u} {
		if e := x.Apply(made(1, 1, 1<<20, api.VV{2 * many}, del("k"))); e != api.OK || x.Dead() != many || len(x.Keys()) != 1 {
			t.Fatalf("Del: %d, Dead %d", e, x.Dead())
		}
		if n := x.Collect(api.VV{2 * many, 1}); n != many || x.Dead() != 0 {
			t.Errorf("Collect: %d", n)
		}
	}
}
