package script

import (
	"strconv"
	"strings"

	"polyphony/api"
	"polyphony/cluster"
)

// Line is what a step and its answer are told as.
func Line(s cluster.Step, a cluster.Answer) string {
	l := kindWord(s.Kind)
	if !isOfMessage(s.Kind) {
		l += " " + strconv.Itoa(s.Node)
	}
	l += " " + faultWord(a.Err)
	if a.Err != api.OK {
		return l
	}
	return l + outcome(s.Kind, a)
}

// outcome is what stands behind the word ok, with a space ahead of it.
func outcome(kind int, a cluster.Answer) string {
	switch kind {
	case cluster.Client:
		if a.Bytes != "" {
			return " " + flat(a.Bytes)
		}
	case cluster.Ask, cluster.Deliver, cluster.Collect:
		return " " + strconv.Itoa(a.N)
	}
	return ""
}

// flat is bytes on one line: where one would end stands a sign. Other bytes stay, whether they are a text's or not.
func flat(bytes string) string {
	return strings.ReplaceAll(strings.ReplaceAll(bytes, "\r", "|"), "\n", "|")
}

// kindWord is a kind's word.
func kindWord(kind int) string {
	// By the kinds' numbers: 0 is none.
	return word(kind, []string{
		"?", "client", "fsync", "ask", "deliver", "drop", "double",
		"crash", "start", "compact", "collect", "wall",
	})
}

// faultWord is an error's word, as clients are told it (layer 22).
func faultWord(e api.Errno) string {
	// By the errors' numbers, from OK on.
	return word(int(e), []string{
		"ok", "arg", "short", "form", "long", "sum", "over", "none",
		"type", "full", "lost", "state", "arity", "int", "unknown", "down",
	})
}

// word is the one of these that has a number.
func word(n int, l []string) string {
	if n < 0 || n >= len(l) {
		return "?"
	}
	return l[n]
}
