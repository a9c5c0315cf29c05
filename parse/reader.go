package parse

import (
	"strconv"

	"refrain/api"
	"refrain/token"
)

// reader goes down the grammar, a method a rule. It gives up at the first fault by a panic with that fault.
type reader struct {
	toks []api.Tok // those that have not been read: at least the end, which is never taken
}

func newReader(text string) *reader {
	toks, at, e := token.Scan(text)
	if e != api.OK {
		panic(fault{e, at})
	}
	return &reader{toks}
}

// at is the place of the next token.
func (r *reader) at() int { return r.toks[0].At }

// unwanted gives up at the next token.
func (r *reader) unwanted() { panic(fault{api.ErrWant, r.at()}) }

// take goes behind the next token, if it is of a kind, and answers its text.
func (r *reader) take(kind int) string {
	tok := r.toks[0]
	if tok.Kind != kind {
		r.unwanted()
	}
	r.toks = r.toks[1:]
	return tok.Text
}

// sees tells whether the next token is one that the grammar has in quotes: not a string that stands for the same bytes.
func (r *reader) sees(text string) bool {
	tok := r.toks[0]
	return (tok.Kind == api.TWord || tok.Kind == api.TSign) && tok.Text == text
}

// skip goes behind a token that the grammar has in quotes, if it is the next one.
func (r *reader) skip(text string) bool {
	if !r.sees(text) {
		return false
	}
	r.toks = r.toks[1:]
	return true
}

// want goes behind tokens that the grammar has in quotes.
func (r *reader) want(texts ...string) {
	for _, text := range texts {
		if !r.skip(text) {
			r.unwanted()
		}
	}
}

// end wants the end of the text.
func (r *reader) end() {
	if r.toks[0].Kind != api.TEnd {
		r.unwanted()
	}
}

func (r *reader) name() string {
	if token.Word(r.toks[0].Text) {
		r.unwanted()
	}
	return r.take(api.TWord)
}

func (r *reader) number() int64 {
	// Scan has refused the numbers that are too great.
	n, _ := strconv.ParseInt(r.take(api.TInt), 10, 64)
	return n
}

// list reads elements with commas between them.
func (r *reader) list(element func()) {
	element()
	for r.skip(",") {
		element()
	}
}
