package token

import (
	"strings"

	"refrain/api"
	"refrain/value"
)

// States of the scanner: what it stands ahead of.
const (
	atEnd = iota
	atBlank
	atComment
	atWord
	atNumber
	atString
	atSign
	atOther // a byte with which none of these begins
)

const (
	blanks  = " \t\n\r"
	remark  = "--"
	lineEnd = '\n'
	quote   = '"'
)

// scanner cuts a text from the left. It stops at the first fault, with at its place.
type scanner struct {
	text  string
	at    int // how many bytes have been read
	fault api.Errno
}

func (s *scanner) rest() string { return s.text[s.at:] }

// fail finds a fault at a place.
func (s *scanner) fail(at int, e api.Errno) { s.at, s.fault = at, e }

// tokens are those of the whole text. After a fault they mean nothing.
func (s *scanner) tokens() []api.Tok {
	var toks []api.Tok
next:
	for s.fault == api.OK {
		tok := api.Tok{At: s.at}
		switch s.state() {
		case atBlank:
			s.at++
			continue next
		case atComment:
			for {
				if s.at == len(s.text) || s.text[s.at] == lineEnd {
					continue next
				}
				s.at++
			}
		case atWord:
			tok.Kind, tok.Text = api.TWord, s.word()
		case atNumber:
			tok.Kind, tok.Text = api.TInt, s.number()
		case atString:
			tok.Kind, tok.Text = api.TStr, s.str()
		case atSign:
			tok.Kind, tok.Text = api.TSign, s.take(signLen(s.rest()))
		case atEnd:
			tok.Kind = api.TEnd
			return append(toks, tok)
		default:
			s.fail(s.at, api.ErrChar)
		}
		toks = append(toks, tok)
	}
	return toks
}

func (s *scanner) state() int {
	rest := s.rest()
	switch {
	case rest == "":
		return atEnd
	case strings.IndexByte(blanks, rest[0]) >= 0:
		return atBlank
	case strings.HasPrefix(rest, remark):
		return atComment
	case rest[0] == quote:
		return atString
	case isDigit(rune(rest[0])):
		return atNumber
	case wordLen(rest) > 0:
		return atWord
	case signLen(rest) > 0:
		return atSign
	}
	return atOther
}

// take goes behind n bytes. They are cloned, since a piece of the text would keep the whole text.
func (s *scanner) take(n int) string {
	taken := strings.Clone(s.rest()[:n])
	s.at += n
	return taken
}

func (s *scanner) word() string {
	n := wordLen(s.rest())
	if n > api.MaxName {
		s.fail(s.at, api.ErrLit)
		return ""
	}
	return s.take(n)
}

// number reads the letters that follow on the digits too: a number with letters behind it is refused like one that is not written in its one form.
func (s *scanner) number() string {
	n := wordLen(s.rest())
	if _, e := value.Read(s.rest()[:n]); e != api.OK {
		s.fail(s.at, api.ErrLit)
		return ""
	}
	return s.take(n)
}

// str reads a string: the bytes that it stands for.
func (s *scanner) str() string {
	opening := s.at
	s.at++
	var bytes []byte
	for !strings.HasPrefix(s.rest(), string(quote)) {
		b, n, e := character(s.rest())
		switch {
		case e == api.ErrOpen:
			s.fail(opening, e)
			return ""
		case e != api.OK:
			s.fail(s.at, e)
			return ""
		case len(bytes) == api.MaxStr:
			s.fail(opening, api.ErrLit)
			return ""
		}
		bytes = append(bytes, b)
		s.at += n
	}
	s.at++
	return string(bytes)
}

// wordLen is how many letters, digits and _ a text begins with.
func wordLen(s string) int {
	for i, c := range s {
		if !isDigit(c) && !isLetter(c) && c != '_' {
			return i
		}
	}
	return len(s)
}

func isDigit(c rune) bool { return c >= '0' && c <= '9' }

func isLetter(c rune) bool { return c >= 'a' && c <= 'z' || c >= 'A' && c <= 'Z' }

// signLen is how many bytes the longest sign has with which a text (that is not empty) begins: 0 if it begins with none.
func signLen(s string) int {
	second := "="
	switch s[0] {
	case '.':
		second = "."
		fallthrough
	case '!', '<', '>':
		if strings.HasPrefix(s[1:], second) {
			return 2
		}
		fallthrough
	case '(', ')', '[', ']', '{', '}', ',', '+', '-', '*', '=':
		return 1
	}
	return 0
}
