package node

import "polyphony/api"

// Ask tells all others what this one has fast, and asks what it lacks.
func (n *Node) Ask() []Msg {
	if !n.Up() {
		return nil
	}
	l := n.life
	l.matrix.See(n.self, l.fast)
	var all []Msg
	for r := range n.replicas {
		if r != n.self {
			all = append(all, Msg{From: n.self, To: r, Ask: true, Seen: l.fast})
		}
	}
	return all
}

// Take takes what another one tells, and answers.
func (n *Node) Take(m Msg) []Msg {
	if !n.Up() || !n.isMeant(m) || n.life.matrix.See(m.From, m.Seen) != api.OK {
		return nil
	}
	l := n.life
	for _, e := range m.Events {
		l.come(e)
	}
	if !m.Ask {
		return nil
	}
	// What isn't fast yet isn't told: a crash could lose it here, and its dot would be given once more.
	lacks := l.others.For(m.Seen, l.fast, api.MaxBatch)
	return []Msg{{From: n.self, To: m.From, Seen: l.fast, Events: lacks}}
}

// isMeant tells whether a message is to this replica, from another one. Whether that is one at all the matrix tells.
func (n *Node) isMeant(m Msg) bool { return m.To == n.self && m.From != n.self }

// come lets events be seen that may be, now that one more came. Where the log has no room for one those behind it may
// hang on it; they are let go, and come again when this replica asks again.
func (l *life) come(e api.Event) {
	for _, ready := range l.buffer.Offer(e, l.space.VV()) {
		if l.see(ready) != api.OK {
			return
		}
	}
}
