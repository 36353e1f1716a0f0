package cluster

import (
	"polyphony/api"
	"polyphony/command"
	"polyphony/node"
	"polyphony/resp"
)

// host is a replica, with what stands beside it: both outlast a crash of its power.
type host struct {
	node *node.Node
	line *resp.Parser // its client's connection
	wall int
}

// newHost is a host whose replica has seen nothing.
func newHost(self, replicas, room int) (host, api.Errno) {
	n, fault := node.New(self, replicas, room)
	if fault != api.OK {
		return host{}, fault
	}
	return host{node: n, line: resp.New()}, api.OK
}

// connect lets the connection be a new one: what was sent of a command by then is no part of the next one.
func (h *host) connect() { h.line = resp.New() }

// client is what the client is told when it sends bytes.
func (h *host) client(bytes string, isNew bool) string {
	if isNew {
		h.connect()
	}
	commands, fault := h.line.Feed([]byte(bytes))
	var told []byte
	for _, args := range commands {
		told = append(told, resp.Encode(h.node.Command(args, h.wall))...)
	}
	if fault != api.OK {
		// The parser tells nothing any more: nobody knows where the next command would begin.
		told = append(told, resp.Encode(command.Refuse(fault))...)
		h.connect()
	}
	return string(told)
}
