package cluster

import (
	"slices"

	"polyphony/api"
	"polyphony/command"
	"polyphony/node"
	"polyphony/resp"
)

// plain is a cluster by the document's words: nodes, what came on each connection since it is a new one, and a list of
// messages.
type plain struct {
	nodes  []*node.Node
	came   []string
	walls  []int
	flying []node.Msg
}

// newPlain is one whose nodes have seen nothing.
func newPlain(replicas, room int) *plain {
	p := &plain{came: make([]string, replicas), walls: make([]int, replicas)}
	for self := range replicas {
		n, _ := node.New(self, replicas, room)
		p.nodes = append(p.nodes, n)
	}
	return p
}

// send is what is sent, as far as there is room.
func (p *plain) send(l []node.Msg) int {
	p.flying = append(p.flying, l...)
	p.flying = p.flying[:min(len(p.flying), flying)]
	return len(l)
}

// client is Client by the document's words: all that came on the connection is read anew each time.
func (p *plain) client(s Step) string {
	if s.At != 0 {
		p.came[s.Node] = ""
	}
	before, _ := resp.New().Feed([]byte(p.came[s.Node]))
	p.came[s.Node] += s.Bytes
	commands, fault := resp.New().Feed([]byte(p.came[s.Node]))
	told := ""
	for _, args := range commands[len(before):] {
		told += string(resp.Encode(p.nodes[s.Node].Command(args, p.walls[s.Node])))
	}
	if fault != 0 {
		told += string(resp.Encode(command.Refuse(fault)))
		p.came[s.Node] = ""
	}
	return told
}

// do is Do by the document's words.
func (p *plain) do(s Step) Answer {
	if s.Kind < 1 || s.Kind > 11 {
		return Answer{Err: 1}
	}
	if s.Kind >= 4 && s.Kind <= 6 {
		if s.N < 0 || s.N >= len(p.flying) {
			return Answer{Err: 7}
		}
		m := p.flying[s.N]
		if s.Kind == 6 {
			p.send([]node.Msg{m})
			return Answer{}
		}
		p.flying = slices.Delete(slices.Clone(p.flying), s.N, s.N+1)
		if s.Kind == 5 {
			return Answer{}
		}
		return Answer{N: p.send(p.nodes[m.To].Take(m))}
	}
	if s.Node < 0 || s.Node >= len(p.nodes) {
		return Answer{Err: 1}
	}
	n := p.nodes[s.Node]
	switch s.Kind {
	case 1:
		return Answer{Bytes: p.client(s)}
	case 2:
		n.Sync()
	case 3:
		return Answer{N: p.send(n.Ask())}
	case 7:
		n.Crash(s.N, s.At, s.Turn)
		p.came[s.Node] = ""
	case 8:
		return Answer{Err: n.Start()}
	case 9:
		return Answer{Err: n.Compact()}
	case 10:
		others, _ := n.Collect()
		return Answer{N: others}
	case 11:
		p.walls[s.Node] = s.N
	}
	return Answer{}
}

// seen is Seen by the document's words.
func (p *plain) seen(at int) (all, fast api.VV, up bool) {
	if at < 0 || at >= len(p.nodes) {
		return api.VV{}, api.VV{}, false
	}
	all, fast = p.nodes[at].Seen()
	return all, fast, p.nodes[at].Up()
}

// kept is Kept by the document's words.
func (p *plain) kept(at int) (others, dead int) {
	if at < 0 || at >= len(p.nodes) {
		return 0, 0
	}
	return p.nodes[at].Kept()
}
