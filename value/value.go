// Package value: typed values and what is done with them: see doc/01-value.md.
package value

import (
	"cmp"

	"refrain/api"
)

// Valid tells whether a value may be.
func Valid(v api.Value) bool {
	switch v.Kind {
	case api.KInt:
		return v == number(v.Int)
	case api.KStr:
		return v == text(v.Str) && len(v.Str) <= api.MaxStr
	case api.KBool:
		return v == truth(v.Bool)
	}
	return false
}

// Compare orders any two values.
func Compare(a, b api.Value) int {
	if c := cmp.Compare(a.Kind, b.Kind); c != 0 {
		return c
	}
	if c := cmp.Compare(a.Int, b.Int); c != 0 {
		return c
	}
	if c := cmp.Compare(a.Str, b.Str); c != 0 {
		return c
	}
	return cmp.Compare(rank(a.Bool), rank(b.Bool))
}

// rank is a truth value as a number, since the language does not order truth values.
func rank(b bool) int {
	if b {
		return 1
	}
	return 0
}

func number(n int64) api.Value { return api.Value{Kind: api.KInt, Int: n} }

func text(s string) api.Value { return api.Value{Kind: api.KStr, Str: s} }

func truth(b bool) api.Value { return api.Value{Kind: api.KBool, Bool: b} }
