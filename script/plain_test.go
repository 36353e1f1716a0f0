package script

import (
	"fmt"
	"regexp"
	"strings"

	"polyphony/api"
	"polyphony/cluster"
)

// layouts is what stands behind a kind's byte, by the document's words: n the node, w the words, b a byte, d two bytes.
// Behind each stands which part of the step it is.
func layouts() map[byte][]string {
	return map[byte][]string{
		1: {"n", "w"}, 2: {"n"}, 3: {"n"}, 4: {"bN"}, 5: {"bN"}, 6: {"bN"}, 7: {"n", "bN", "bA", "dT"},
		8: {"n"}, 9: {"n"}, 10: {"n"}, 11: {"n", "dN"},
	}
}

// plainEntry is the step of an entry at a place, by the document's words, and the place behind it; false, if the bytes end
// within it: then a byte is asked for that isn't there, which panics.
func plainEntry(b []byte, at, replicas int) (s cluster.Step, next int, ok bool) {
	defer func() {
		if recover() != nil {
			ok = false
		}
	}()
	s.Kind = int(b[at])
	next = at + 1
	for _, part := range layouts()[b[at]] {
		n := 0
		switch part[0] {
		case 'n':
			s.Node = int(b[next]) % replicas
			next++
		case 'w':
			var words []string
			count := b[next] % 5
			next++
			for range count {
				end := next + 1 + int(b[next])
				words = append(words, string(b[next+1:end:len(b)]))
				next = end
			}
			s.Bytes = wire(words...)
		case 'b':
			n = int(b[next])
			next++
		case 'd':
			n = int(b[next])*256 + int(b[next+1])
			next += 2
		}
		switch part[1:] {
		case "N":
			s.N = n
		case "A":
			s.At = n
		case "T":
			s.Turn = n
		}
	}
	return s, next, true
}

// plainDecode is Decode by the document's words; and the places at which the entries begin.
func plainDecode(b []byte) (replicas int, l []cluster.Step, places []int) {
	b = append([]byte(nil), b[:min(len(b), bound)]...)
	if len(b) == 0 {
		return 1, nil, nil
	}
	replicas = 1 + int(b[0])%maxReplicas
	for at := 1; at < len(b); {
		if b[at] < 1 || b[at] > 11 {
			at++
			continue
		}
		s, next, ok := plainEntry(b, at, replicas)
		if !ok {
			break
		}
		l, places = append(l, s), append(places, at)
		at = next
	}
	return replicas, l, places
}

// plainLine is Line by the document's words.
func plainLine(s cluster.Step, a cluster.Answer) string {
	kind := func() string {
		for i, w := range strings.Fields("client fsync ask deliver drop double crash start compact collect wall") {
			if s.Kind == i+1 {
				return w
			}
		}
		return "?"
	}()
	fault := "?"
	for i, w := range strings.Fields("ok arg short form long sum over none type full lost state arity int unknown down") {
		if a.Err == api.Errno(i) {
			fault = w
		}
	}
	node := fmt.Sprint(" ", s.Node)
	if kind == "deliver" || kind == "drop" || kind == "double" {
		node = ""
	}
	end := ""
	switch {
	case fault != "ok":
	case kind == "client" && a.Bytes != "":
		end = " " + regexp.MustCompile(`[\r\n]`).ReplaceAllString(a.Bytes, "|")
	case kind == "ask" || kind == "deliver" || kind == "collect":
		end = fmt.Sprint(" ", a.N)
	}
	return kind + node + " " + fault + end
}

// plainRun is Run by the document's words.
func plainRun(b []byte) []string {
	replicas, steps, _ := plainDecode(b)
	c, _ := cluster.New(replicas, topFile)
	var l []string
	for _, s := range steps {
		l = append(l, plainLine(s, c.Do(s)))
	}
	for node := range c.Replicas() {
		seen, _, up := c.Seen(node)
		all := 0
		for r := range maxReplicas {
			all += seen[r]
		}
		if up {
			l = append(l, fmt.Sprintf("node %d %d", node, all))
		} else {
			l = append(l, fmt.Sprintf("node %d down", node))
		}
	}
	return l
}
