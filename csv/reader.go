package csv

import (
	"strings"

	"refrain/api"
)

// reader goes through a text of rows. It stops at the first fault, with at its place.
type reader struct {
	text  string
	at    int // how many bytes have been read
	fault api.Errno
}

// skip goes behind s, if s stands here.
func (r *reader) skip(s string) bool {
	there := strings.HasPrefix(r.text[r.at:], s)
	if there {
		r.at += len(s)
	}
	return there
}

// row reads one row, its end too. After a fault it means nothing.
func (r *reader) row() []string {
	var row []string
cells:
	for more := true; more; more = r.skip(comma) {
		opening := r.at
		if !r.skip(quote) {
			row = append(row, r.plain())
			continue
		}
		var cell []byte
		for {
			switch {
			case r.at == len(r.text):
				r.at = opening // a quoted cell that does not end is left unread: end refuses its quote
				break cells
			case !r.skip(quote):
				cell = append(cell, r.text[r.at])
				r.at++
			case r.skip(quote):
				cell = append(cell, quote...)
			default:
				row = append(row, string(cell))
				continue cells
			}
		}
	}
	r.end()
	return row
}

// plain reads a plain cell. It is cloned, since a piece of the text would keep the whole text.
func (r *reader) plain() string {
	rest := r.text[r.at:]
	n := strings.IndexAny(rest, notPlain)
	if n < 0 {
		n = len(rest)
	}
	r.at += n
	return strings.Clone(rest[:n])
}

// end reads a row's end. What else can stand behind a cell is a fault: a CR by itself, a quote in a plain cell, anything behind a closing quote.
func (r *reader) end() {
	switch {
	case r.at == len(r.text), r.skip(lf), r.skip(rowEnd):
	case strings.HasPrefix(r.text[r.at:], cr):
		r.fault = api.ErrRow
	default:
		r.fault = api.ErrQuote
	}
}
