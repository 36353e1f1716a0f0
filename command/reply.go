package command

import (
	"polyphony/api"
	"polyphony/resp"
)

// outcome is what comes of a command: what it answers, and what it does, if it does something.
type outcome struct {
	reply resp.Reply
	op    api.Op
	does  bool
}

// tell is the outcome of a command that does nothing.
func tell(r resp.Reply) outcome { return outcome{reply: r} }

// do is the outcome of a command that does something.
func do(r resp.Reply, op api.Op) outcome { return outcome{reply: r, op: op, does: true} }

// doIf is the outcome of a command that tells whether it did something.
func doIf(may bool, op api.Op) outcome {
	if !may {
		return tell(isIt(false))
	}
	return do(isIt(true), op)
}

// fail is the outcome of a command that can't be done.
func fail(word string) outcome { return tell(refusal(word)) }

// refusal tells that something can't be done.
func refusal(text string) resp.Reply { return resp.Reply{Kind: resp.Error, Text: text} }

// simple tells a word.
func simple(word string) resp.Reply { return resp.Reply{Kind: resp.Simple, Text: word} }

// whole tells a number.
func whole(n int) resp.Reply { return resp.Reply{Kind: resp.Int, Num: n} }

// isIt tells whether something is so.
func isIt(so bool) resp.Reply {
	if so {
		return whole(1)
	}
	return whole(0)
}

// none tells that there is none.
func none() resp.Reply { return resp.Reply{Kind: resp.Nil} }

// bulkIf tells a text, if there is one.
func bulkIf(there bool, s string) resp.Reply {
	if !there {
		return none()
	}
	return resp.Reply{Kind: resp.Bulk, Text: s}
}

// array tells texts.
func array(l []string) resp.Reply { return resp.Reply{Kind: resp.Array, List: l} }

// Refuse is what a client is told of an error.
func Refuse(e api.Errno) resp.Reply { return refusal("ERR " + word(e)) }

// word is an error's word.
func word(e api.Errno) string {
	// By the errors' numbers, from OK on.
	words := []string{
		"ok", "arg", "short", "form", "long", "sum", "over", "none",
		"type", "full", "lost", "state", "arity", "int", "unknown", "down",
	}
	if e < 0 || int(e) >= len(words) {
		return "?"
	}
	return words[e]
}
