package cluster

import (
	"slices"
	"strings"
	"testing"

	"polyphony/api"
	"polyphony/node"
	"polyphony/resp"
)

// The limits, as the document says them.
const (
	most    = 16
	topFile = 65536
	topWall = 1<<44 - 1
	batch   = 8
	flying  = 256
)

// dice is numbers that look like no pattern, the same ones each time.
type dice uint32

func (s *dice) roll(n int) int {
	*s = *s*1664525 + 1013904223
	return int(*s>>8) % n
}

// pick is one of several things.
func pick[T any](s *dice, l ...T) T { return l[s.roll(len(l))] }

func many(n int, c string) string { return strings.Repeat(c, n) }

// made is a new cluster.
func made(t *testing.T, replicas, room int) *Cluster {
	t.Helper()
	c, e := New(replicas, room)
	if e != api.OK || c == nil {
		t.Fatalf("New(%d, %d): %v, %d", replicas, room, c, e)
	}
	return c
}

// does holds what a step answers against what it shall answer.
func does(t *testing.T, c *Cluster, s Step, want Answer) {
	t.Helper()
	if got := c.Do(s); got != want {
		t.Fatalf("Do(%+v): %+v, want %+v", s, got, want)
	}
}

// wire is a command's bytes: its words are told with a space between.
func wire(words string) string { return string(resp.Command(strings.Fields(words))) }

// wires is several commands' bytes, one behind the other.
func wires(l ...string) string {
	all := ""
	for _, words := range l {
		all += wire(words)
	}
	return all
}

// lines is bytes of which each | is told as a line's end.
func lines(s string) string { return strings.ReplaceAll(s, "|", "\r\n") }

// asks holds what a node's client is told of one command, each line's end as a |.
func asks(t *testing.T, c *Cluster, at int, words, want string) {
	t.Helper()
	does(t, c, Step{Kind: Client, Node: at, Bytes: wire(words)}, Answer{Bytes: lines(want)})
}

// says holds what a node's client is told when it sends these bytes.
func says(t *testing.T, c *Cluster, at int, bytes, want string) {
	t.Helper()
	does(t, c, Step{Kind: Client, Node: at, Bytes: bytes}, Answer{Bytes: lines(want)})
}

// saw holds Seen of a node that is up against what it shall tell.
func saw(t *testing.T, c *Cluster, at int, all, fast api.VV) {
	t.Helper()
	if a, f, up := c.Seen(at); a != all || f != fast || !up {
		t.Fatalf("Seen(%d): %v, %v, %t, want %v, %v", at, a, f, up, all, fast)
	}
}

// isDown holds that a node is down, and tells nothing.
func isDown(t *testing.T, c *Cluster, at int) {
	t.Helper()
	all, fast, up := c.Seen(at)
	others, dead := c.Kept(at)
	if all != (api.VV{}) || fast != (api.VV{}) || up || others != 0 || dead != 0 {
		t.Fatalf("node %d: %v, %v, %t, %d, %d", at, all, fast, up, others, dead)
	}
}

// keeps holds Kept of a node against what it shall tell.
func keeps(t *testing.T, c *Cluster, at, others, dead int) {
	t.Helper()
	if o, d := c.Kept(at); o != others || d != dead {
		t.Fatalf("Kept(%d): %d, %d, want %d, %d", at, o, d, others, dead)
	}
}

// flies holds how many messages are under way.
func flies(t *testing.T, c *Cluster, want int) {
	t.Helper()
	if n := c.InFlight(); n != want {
		t.Fatalf("%d messages are under way, want %d", n, want)
	}
}

// underWay is the messages under way, in order; the cluster has them as it had them.
func underWay(c *Cluster) []node.Msg {
	var l []node.Msg
	for range c.InFlight() {
		m, _ := c.flying.Take()
		l = append(l, m)
		c.flying.Put(m)
	}
	return l
}

// sameMsg tells whether two messages are the same.
func sameMsg(a, b node.Msg) bool {
	return a.From == b.From && a.To == b.To && a.Ask == b.Ask && a.Seen == b.Seen && slices.Equal(a.Events, b.Events)
}

// ways is the messages under way, each as its From and its To; behind it ?, or how many events it brings.
func ways(c *Cluster) string {
	var l []string
	for _, m := range underWay(c) {
		end := string(rune('0' + len(m.Events)))
		if m.Ask {
			end = "?"
		}
		l = append(l, string(rune('a'+m.From))+string(rune('a'+m.To))+end)
	}
	return strings.Join(l, " ")
}

// isUnderWay holds the messages under way against what they shall be.
func isUnderWay(t *testing.T, c *Cluster, want string) {
	t.Helper()
	if got := ways(c); got != want {
		t.Fatalf("under way: %s, want %s", got, want)
	}
}

// vv is a vector with a number for some replicas: replica, number, and so on.
func vv(pairs ...int) api.VV {
	var v api.VV
	for i := 0; i < len(pairs); i += 2 {
		v[pairs[i]] = pairs[i+1]
	}
	return v
}
