package check

import (
	"slices"

	"refrain/api"
	"refrain/schema"
)

// The methods of this file tell the first fault of a part of a query: of which one of the part's it is, and what. Each may be asked only where the parts ahead of its own have no fault.

func (c *checker) comps() (int, api.Errno) {
	comps := c.q.Comps
	switch {
	case len(comps) == 0:
		return 0, api.ErrLong
	case len(comps) > api.MaxComps:
		return api.MaxComps, api.ErrLong
	}
	for i, comp := range comps {
		if err := c.comp(i, comp); err != api.OK {
			return i, err
		}
	}
	last := len(comps) - 1
	switch {
	case comps[0].Neg:
		return 0, api.ErrNeg
	case comps[last].Neg:
		return last, api.ErrNeg
	}
	return 0, api.OK
}

func (c *checker) comp(place int, comp api.Comp) api.Errno {
	if comp.Neg && comp.Plus {
		return api.ErrTree
	}
	if _, there := c.findType(comp.Type); !there {
		return api.ErrType
	}
	if !schema.Name(comp.Var) || c.places[comp.Var] < place {
		return api.ErrVar
	}
	return api.OK
}

func (c *checker) part() (int, api.Errno) {
	if c.q.Part == "" {
		return 0, api.OK
	}
	return 0, c.alike(c.q.Part)
}

// alike tells what is wrong with an attribute that all components should have, of one kind.
func (c *checker) alike(name string) api.Errno {
	if name == api.TimeAttr {
		return api.ErrAttr
	}
	first := 0
	for i, comp := range c.q.Comps {
		t, _ := c.findType(comp.Type)
		kind, err := attrKind(t, name)
		if err != api.OK {
			return err
		}
		if i == 0 {
			first = kind
		}
		if kind != first {
			return api.ErrKind
		}
	}
	return api.OK
}

func (c *checker) equiv() (int, api.Errno) {
	for i, name := range c.q.Equiv {
		err := api.OK
		switch {
		case i >= api.MaxConds:
			err = api.ErrLong
		case slices.Contains(c.q.Equiv[:i], name):
			err = api.ErrEquiv
		default:
			err = c.alike(name)
		}
		if err != api.OK {
			return i, err
		}
	}
	return 0, api.OK
}

func (c *checker) where() (int, api.Errno) {
	switch c.q.Strategy {
	case api.Any, api.Next, api.Strict:
	default:
		return 0, api.ErrTree
	}
	for i, cond := range c.q.Where {
		if len(c.q.Equiv)+i >= api.MaxConds {
			return i, api.ErrLong
		}
		kind, err := c.worthIn(cond, c.inCond)
		if err == api.OK && kind != api.KBool {
			err = api.ErrBool
		}
		if err != api.OK {
			return i, err
		}
	}
	return 0, api.OK
}

// worthIn is the kind of an expression where what it speaks of must be allowed.
func (c *checker) worthIn(e api.Expr, allowed func(api.Expr) bool) (int, api.Errno) {
	kind, err := c.worth(e)
	if err == api.OK && !allowed(e) {
		return 0, api.ErrMix
	}
	return kind, err
}

func (c *checker) within() (int, api.Errno) {
	if c.q.Within < 0 || c.q.Within > api.MaxTime {
		return 0, api.ErrSpan
	}
	return 0, api.OK
}

func (c *checker) out() (int, api.Errno) {
	if _, there := c.findType(c.q.Out); c.q.Out != "" && !there {
		return 0, api.ErrType
	}
	return 0, api.OK
}

func (c *checker) items() (int, api.Errno) {
	items := c.q.Items
	switch {
	case len(items) == 0:
		return 0, api.ErrLong
	case len(items) > api.MaxItems:
		return api.MaxItems, api.ErrLong
	}
	for i := range items {
		if err := c.item(i); err != api.OK {
			return i, err
		}
	}
	if len(items) < len(c.outAttrs()) {
		return len(items), api.ErrOut
	}
	return 0, api.OK
}

// outAttrs are the attributes of the output's type. A query without one has none.
func (c *checker) outAttrs() []api.Attr {
	if c.q.Out == "" {
		return nil
	}
	t, _ := c.findType(c.q.Out)
	return t.Attrs
}

func (c *checker) item(place int) api.Errno {
	item := c.q.Items[place]
	if !schema.Name(item.Name) {
		return api.ErrName
	}
	if slices.ContainsFunc(c.q.Items[:place], func(other api.Item) bool { return other.Name == item.Name }) {
		return api.ErrDup
	}
	kind, err := c.worthIn(item.Expr, c.inOutput)
	if err != api.OK || c.q.Out == "" {
		return err
	}
	if attrs := c.outAttrs(); place >= len(attrs) || attrs[place] != (api.Attr{Name: item.Name, Kind: kind}) {
		return api.ErrOut
	}
	return api.OK
}
