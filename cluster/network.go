package cluster

import "polyphony/node"

// InFlight is how many messages are under way.
func (c *Cluster) InFlight() int {
	if c == nil {
		return 0
	}
	return c.flying.Len()
}

// send lets messages be under way, behind the others: those for which there is no room are lost. It tells how many they
// were, as nobody is told of a loss.
func (c *Cluster) send(l []node.Msg) int {
	for _, m := range l {
		c.flying.Put(m)
	}
	return len(l)
}

// find is the message that stands at a place, which stays there or is taken out. A box tells its first thing alone: so each
// one is taken and put behind the others, till all stand as they stood.
func (c *Cluster) find(n int, stays bool) (node.Msg, bool) {
	if n < 0 || n >= c.flying.Len() {
		return node.Msg{}, false
	}
	var found node.Msg
	for i := range c.flying.Len() {
		m, _ := c.flying.Take()
		if i == n {
			found = m
		}
		if i != n || stays {
			c.flying.Put(m)
		}
	}
	return found, true
}
