package token

import "refrain/api"

const (
	lowest  = 0x20 // of the bytes that may stand in a string
	highest = 0x7e
	escape  = '\\'
)

// character reads the character of a string with which s begins: the byte that it stands for, and how many bytes it has. ErrOpen: s ends within it.
func character(s string) (byte, int, api.Errno) {
	switch {
	case s == "":
		return 0, 0, api.ErrOpen
	case s[0] < lowest || s[0] > highest:
		return 0, 0, api.ErrChar
	case s[0] == escape:
		return escaped(s)
	}
	return s[0], 1, api.OK
}

// escaped reads an escape, of which the backslash is there.
func escaped(s string) (byte, int, api.Errno) {
	if len(s) < len(`\n`) {
		return 0, 0, api.ErrOpen
	}
	b := s[1]
	switch b {
	case quote, escape:
	case 'n':
		b = '\n'
	case 't':
		b = '\t'
	case 'x':
		return hex(s)
	default:
		return 0, 0, api.ErrLit
	}
	return b, len(`\n`), api.OK
}

// hex reads an escape of two digits, of which `\x` is there.
func hex(s string) (byte, int, api.Errno) {
	const width = len(`\x00`)
	var b byte
	for at := len(`\x`); at < width; at++ {
		if at == len(s) {
			return 0, 0, api.ErrOpen
		}
		digit, ok := hexDigit(s[at])
		if !ok {
			return 0, 0, api.ErrLit
		}
		b = b<<4 | digit
	}
	return b, width, api.OK
}

func hexDigit(c byte) (byte, bool) {
	switch {
	case c >= '0' && c <= '9':
		return c - '0', true
	case c >= 'a' && c <= 'f':
		return c - 'a' + 10, true
	case c >= 'A' && c <= 'F':
		return c - 'A' + 10, true
	}
	return 0, false
}
