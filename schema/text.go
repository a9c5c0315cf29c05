package schema

import (
	"strings"

	"refrain/api"
)

const (
	opens  = "("
	closes = ")"
	parts  = ","
	end    = "" // what the reader has for a token behind the last one

	blanks = " \t\n\r"
)

// Print writes a declaration.
func Print(t api.Type) (string, api.Errno) {
	if e := fault(t); e != api.OK {
		return "", e
	}
	attrs := make([]string, 0, len(t.Attrs))
	for _, a := range t.Attrs {
		attrs = append(attrs, a.Name+" "+kindWords[a.Kind])
	}
	return typeWord + " " + t.Name + " " + opens + strings.Join(attrs, parts+" ") + closes, api.OK
}

// Parse reads a declaration; of an error the place too.
func Parse(text string) (api.Type, int, api.Errno) {
	if len(text) > api.MaxText {
		return api.Type{}, 0, api.ErrLong
	}
	r := reader{text: text}
	r.step()
	t := r.declaration()
	if r.fault != api.OK {
		return api.Type{}, r.at, r.fault
	}
	return t, 0, api.OK
}

// reader goes through a declaration token by token. At the first fault it stops for good, so that what reads by it need not ask after each step.
type reader struct {
	text  string
	token string // of a byte that is no part of any token: that byte, which nothing wants
	at    int    // the place of token
	fault api.Errno
}

// step goes on to the next token.
func (r *reader) step() {
	if r.fault != api.OK {
		return
	}
	rest := strings.TrimLeft(r.text[r.at+len(r.token):], blanks)
	r.at = len(r.text) - len(rest)
	r.token = rest[:tokenLen(rest)]
}

func tokenLen(s string) int {
	if n := wordLen(s); n > 0 {
		return n
	}
	return min(len(s), 1)
}

// demand finds the fault e at the token, if what is demanded of it does not hold.
func (r *reader) demand(holds bool, e api.Errno) {
	if r.fault == api.OK && !holds {
		r.fault = e
	}
}

func (r *reader) take(token string) {
	r.demand(r.token == token, api.ErrDecl)
	r.step()
}

func (r *reader) declaration() api.Type {
	var t api.Type
	r.take(typeWord)
	t.Name = r.typeName()
	r.take(opens)
	if r.token != closes {
		t.Attrs = r.attrs()
	}
	r.take(closes)
	r.take(end)
	return t
}

func (r *reader) attrs() []api.Attr {
	attrs := []api.Attr{r.attr(nil)}
	for r.fault == api.OK && r.token == parts {
		r.step()
		attrs = append(attrs, r.attr(attrs))
	}
	return attrs
}

func (r *reader) attr(ahead []api.Attr) api.Attr {
	var a api.Attr
	a.Name = r.attrName(ahead)
	a.Kind = r.kind()
	return a
}

func (r *reader) typeName() string {
	name := r.token
	r.demand(wordLen(name) > 0, api.ErrDecl)
	r.demand(Name(name), api.ErrName)
	r.step()
	return name
}

func (r *reader) attrName(ahead []api.Attr) string {
	name := r.token
	r.demand(wordLen(name) > 0, api.ErrDecl)
	r.demand(len(ahead) < api.MaxAttrs, api.ErrLong)
	r.demand(attrName(name), api.ErrName)
	r.demand(!has(ahead, name), api.ErrDup)
	r.step()
	return name
}

func (r *reader) kind() int {
	kind := kindOf(r.token)
	r.demand(kind != noKind, api.ErrDecl)
	r.step()
	return kind
}
