package csv

import (
	"refrain/api"
	"refrain/value"
)

// cellForm is how the cells of a kind are read and written.
type cellForm struct {
	read  func(cell string) api.Value // of a cell that is none of the kind: a value that may not be, or one of another kind
	write func(v api.Value) string    // asked of values that may be
}

// formOf is the form of a kind's cells, if there is such a kind.
func formOf(kind int) (cellForm, bool) {
	if kind < api.KInt || kind > api.KBool {
		return cellForm{}, false
	}
	forms := [...]cellForm{
		api.KInt:  {readShown, show},
		api.KStr:  {readBytes, bytesOf},
		api.KBool: {readShown, show},
	}
	return forms[kind], true
}

// readShown need not look at value.Read's error: beside it stands the zero value, which may not be.
func readShown(cell string) api.Value {
	v, _ := value.Read(cell)
	return v
}

func show(v api.Value) string {
	cell, _ := value.Show(v)
	return cell
}

func readBytes(cell string) api.Value { return api.Value{Kind: api.KStr, Str: cell} }

func bytesOf(v api.Value) string { return v.Str }

// readCell reads a cell of one of the three kinds.
func readCell(kind int, cell string) (api.Value, bool) {
	form, _ := formOf(kind)
	v := form.read(cell)
	return v, v.Kind == kind && value.Valid(v)
}

// writeCell writes a value that may be.
func writeCell(v api.Value) string {
	form, _ := formOf(v.Kind)
	return form.write(v)
}

// Event reads an event of a type from a row.
func Event(t api.Type, row []string) (api.Event, api.Errno) {
	if len(row) != len(t.Attrs)+1 {
		return api.Event{}, api.ErrArity
	}
	time, ok := readCell(api.KInt, row[0])
	if !ok || !isTime(time.Int) {
		return api.Event{}, api.ErrTime
	}
	for _, a := range t.Attrs {
		if _, ok := formOf(a.Kind); !ok {
			return api.Event{}, api.ErrKind
		}
	}
	e := api.Event{Type: t.Name, Time: time.Int}
	for i, a := range t.Attrs {
		v, ok := readCell(a.Kind, row[i+1])
		if !ok {
			return api.Event{}, api.ErrValue
		}
		e.Vals = append(e.Vals, v)
	}
	return e, api.OK
}

// Row writes an event as a row.
func Row(t api.Type, e api.Event) ([]string, api.Errno) {
	if f := fault(t, e); f != api.OK {
		return nil, f
	}
	row := []string{writeCell(api.Value{Kind: api.KInt, Int: e.Time})}
	for _, v := range e.Vals {
		row = append(row, writeCell(v))
	}
	return row, api.OK
}

// fault is what is wrong with an event that is to be written by the type t, or OK.
func fault(t api.Type, e api.Event) api.Errno {
	switch {
	case e.Type != t.Name:
		return api.ErrType
	case !isTime(e.Time):
		return api.ErrTime
	case len(e.Vals) != len(t.Attrs):
		return api.ErrArity
	}
	for i, v := range e.Vals {
		if !value.Valid(v) {
			return api.ErrValue
		}
		if v.Kind != t.Attrs[i].Kind {
			return api.ErrKind
		}
	}
	return api.OK
}

func isTime(n int64) bool { return n >= 0 && n <= api.MaxTime }
