package command

import (
	"strconv"

	"polyphony/api"
)

// mostWhole is the greatest number of fifteen digits.
const mostWhole = 999_999_999_999_999

// Parse understands a command's arguments.
func Parse(args []string) (Call, api.Errno) {
	if len(args) == 0 {
		return Call{}, api.ErrArity
	}
	r, ok := rowOf(capitals(args[0]))
	if !ok {
		return Call{}, api.ErrUnknown
	}
	if len(args)-1 != len(r.takes) {
		return Call{}, api.ErrArity
	}
	c := Call{Name: r.name}
	for i := range len(r.takes) {
		if e := c.take(r.takes[i], args[i+1]); e != api.OK {
			return Call{}, e
		}
	}
	return c, api.OK
}

// capitals is a name with capitals for small letters. Only for a to z: other alphabets have letters whose capital is one
// of A to Z, too, and these are in no command's name.
func capitals(s string) string {
	b := []byte(s)
	for i, c := range b {
		if c >= 'a' && c <= 'z' {
			b[i] = c - 'a' + 'A'
		}
	}
	return string(b)
}

// take takes an argument as the part of the call that a letter of the table names.
func (c *Call) take(part byte, s string) api.Errno {
	switch part {
	case 'k':
		return takeKey(&c.Key, s)
	case 'f':
		return takeText(&c.Field, s)
	case 'v':
		return takeText(&c.Value, s)
	case 'n':
		return takeWhole(&c.N, s)
	}
	return takeWhole(&c.M, s)
}

// takeKey takes an argument as a key.
func takeKey(to *string, s string) api.Errno {
	if s == "" {
		return api.ErrArg
	}
	return takeText(to, s)
}

// takeText takes an argument as a field, or a value.
func takeText(to *string, s string) api.Errno {
	if len(s) > api.MaxText {
		return api.ErrLong
	}
	*to = s
	return api.OK
}

// takeWhole takes an argument as a whole number. A number has one text alone, and that is how it is written: so a text
// that the number isn't written as (with + or a 0 ahead, or -0) is none.
func takeWhole(to *int, s string) api.Errno {
	n, err := strconv.Atoi(s)
	if err != nil || n < -mostWhole || n > mostWhole || strconv.Itoa(n) != s {
		return api.ErrInt
	}
	*to = n
	return api.OK
}
