package value

import (
	"strconv"

	"refrain/api"
)

const (
	trueText  = "TRUE"
	falseText = "FALSE"

	digits = "0123456789abcdef"

	quotes = len(`""`)
	pair   = len(`\n`)
	hex    = len(`\x`) + 2 // the most bytes that one byte of a string is written with

	// longest is the most bytes that a value's text has.
	longest = quotes + hex*api.MaxStr
)

// Show writes a value.
func Show(v api.Value) (string, api.Errno) {
	if !Valid(v) {
		return "", api.ErrValue
	}
	switch v.Kind {
	case api.KInt:
		return strconv.FormatInt(v.Int, 10), api.OK
	case api.KStr:
		return quote(v.Str), api.OK
	}
	if v.Bool {
		return trueText, api.OK
	}
	return falseText, api.OK
}

// Read reads a value. It takes more forms than there are and then asks Show,
// so that what one form is stands in one place.
func Read(s string) (api.Value, api.Errno) {
	v, ok := guess(s)
	if !ok {
		return api.Value{}, api.ErrValue
	}
	if shown, e := Show(v); e != api.OK || shown != s {
		return api.Value{}, api.ErrValue
	}
	return v, api.OK
}

// guess is the only value whose text s can be, if there is one.
func guess(s string) (api.Value, bool) {
	if s == "" || len(s) > longest {
		return api.Value{}, false
	}
	switch {
	case s == trueText:
		return truth(true), true
	case s == falseText:
		return truth(false), true
	case s[0] == '"':
		str, ok := unquote(s)
		return text(str), ok
	}
	n, err := strconv.ParseInt(s, 10, 64)
	return number(n), err == nil
}

func quote(s string) string {
	out := make([]byte, 0, len(s)+quotes)
	out = append(out, '"')
	for i := range len(s) {
		out = appendByte(out, s[i])
	}
	return string(append(out, '"'))
}

func appendByte(out []byte, c byte) []byte {
	switch c {
	case '"', '\\':
		return append(out, '\\', c)
	case '\n':
		return append(out, `\n`...)
	case '\t':
		return append(out, `\t`...)
	}
	if c < 0x20 || c > 0x7e {
		return append(out, '\\', 'x', digits[c>>4], digits[c&15])
	}
	return append(out, c)
}

func unquote(s string) (string, bool) {
	if len(s) < quotes || s[0] != '"' || s[len(s)-1] != '"' {
		return "", false
	}
	s = s[1 : len(s)-1]
	out := make([]byte, 0, len(s))
	for s != "" {
		c, width := firstByte(s)
		if width == 0 {
			return "", false
		}
		out = append(out, c)
		s = s[width:]
	}
	return string(out), true
}

// firstByte is the byte that s begins with, and how many bytes it is written with: 0 if s begins with none.
func firstByte(s string) (byte, int) {
	if s[0] != '\\' {
		return s[0], 1
	}
	if len(s) < pair {
		return 0, 0
	}
	switch s[1] {
	case '"', '\\':
		return s[1], pair
	case 'n':
		return '\n', pair
	case 't':
		return '\t', pair
	case 'x':
		return hexByte(s)
	}
	return 0, 0
}

func hexByte(s string) (byte, int) {
	if len(s) < hex {
		return 0, 0
	}
	n, err := strconv.ParseUint(s[len(`\x`):hex], 16, 8)
	if err != nil {
		return 0, 0
	}
	return byte(n), hex
}
