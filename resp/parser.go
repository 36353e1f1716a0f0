package resp

import "polyphony/api"

// mostDigits is how many digits a count may have.
const mostDigits = 6

// Parser takes a client's bytes in pieces.
type Parser struct {
	// left is the beginning of a command that isn't whole yet.
	// A string, so that parsers that were copied share nothing that can change, and a great piece isn't held by its last bytes.
	left string
	// fault is what was wrong: then there is nothing left.
	fault api.Errno
}

// New is a parser that has taken nothing.
func New() *Parser { return new(Parser) }

// Feed takes a piece, and tells the commands that are whole now.
func (p *Parser) Feed(b []byte) ([][]string, api.Errno) {
	if p == nil {
		return nil, api.OK
	}
	if p.fault != api.OK {
		return nil, p.fault
	}
	all := append([]byte(p.left), b...)
	commands, at, e := takeAll(all)
	if e == api.ErrShort {
		p.left = string(all[at:])
		return commands, api.OK
	}
	p.left, p.fault = "", e
	return commands, e
}

// takeAll takes commands from the beginning on, and tells the place of the first one that can't be taken, and why: ErrShort, if that isn't whole yet.
func takeAll(b []byte) ([][]string, int, api.Errno) {
	var commands [][]string
	at := 0
	for {
		args, next, e := takeCommand(b, at)
		if e != api.OK {
			return commands, at, e
		}
		commands = append(commands, args)
		at = next
	}
}

// takeCommand takes the command at a place, and tells the place behind it.
func takeCommand(b []byte, at int) ([]string, int, api.Errno) {
	n, at, e := takeCount(b, at, manySign, 1, api.MaxArgs)
	if e != api.OK {
		return nil, 0, e
	}
	args := make([]string, n)
	for i := range args {
		args[i], at, e = takeArgument(b, at)
		if e != api.OK {
			return nil, 0, e
		}
	}
	return args, at, api.OK
}

// takeArgument takes the argument at a place, and tells the place behind it.
func takeArgument(b []byte, at int) (string, int, api.Errno) {
	n, from, e := takeCount(b, at, sizeSign, 0, api.MaxText)
	if e != api.OK {
		return "", 0, e
	}
	if len(b)-from < n {
		return "", 0, api.ErrShort
	}
	next, e := pass(b, from+n, lineEnd)
	if e != api.OK {
		return "", 0, e
	}
	return string(b[from : from+n]), next, api.OK
}

// takeCount takes the line at a place: a sign, and a count, which must lie within bounds.
func takeCount(b []byte, at int, sign string, least, most int) (int, int, api.Errno) {
	at, e := pass(b, at, sign)
	if e != api.OK {
		return 0, 0, e
	}
	n, at, e := takeDigits(b, at)
	if e != api.OK {
		return 0, 0, e
	}
	at, e = pass(b, at, lineEnd)
	if e != api.OK {
		return 0, 0, e
	}
	// Not ahead of the line's end: a byte that can't stand there would be a fault of another kind.
	if n < least || n > most {
		return 0, 0, api.ErrLong
	}
	return n, at, api.OK
}

// takeDigits takes the count at a place, up to a byte that is no digit.
func takeDigits(b []byte, at int) (int, int, api.Errno) {
	n, from := 0, at
digits:
	for ; at < len(b); at++ {
		switch c := b[at]; {
		case c < '0' || c > '9':
			break digits
		case at-from == mostDigits, at > from && n == 0:
			return 0, 0, api.ErrForm
		default:
			n = 10*n + int(c-'0')
		}
	}
	// At the end it is open whether another digit follows.
	if at == len(b) {
		return 0, 0, api.ErrShort
	}
	if at == from {
		return 0, 0, api.ErrForm
	}
	return n, at, api.OK
}

// pass is the place behind a word that must stand at a place.
func pass(b []byte, at int, word string) (int, api.Errno) {
	for i := range len(word) {
		if at+i == len(b) {
			return 0, api.ErrShort
		}
		if b[at+i] != word[i] {
			return 0, api.ErrForm
		}
	}
	return at + len(word), api.OK
}
