package infer

import (
	"espalier/api"
	"espalier/types"
)

// called is a function's name, and of how many arguments it is called.
type called struct {
	name string
	args int
}

// call is the type of a Call. A function that is there goes ahead of one of the query.
func (w *walk) call(name string, args ...api.SeqType) api.SeqType {
	f := called{name, len(args)}
	if t, ok := plain(f); ok {
		return t
	}
	if t, ok := built(f, args...); ok {
		return t
	}
	for _, g := range w.funcs {
		if g.Name == name && len(g.Params) == len(args) {
			return g.Result
		}
	}
	return api.SeqType{Item: api.AnyItem, Occ: api.Star}
}

// plain is the type of a call that is the same, whatever the arguments: is it one of these?
func plain(f called) (api.SeqType, bool) {
	switch f {
	case called{"count", 1}, called{"position", 0}, called{"last", 0}, called{"string-length", 1}:
		return one(api.IntItem), true
	case called{"compare", 2}:
		return api.SeqType{Item: api.IntItem, Occ: api.Opt}, true
	case called{"index-of", 2}, called{"string-to-codepoints", 1}:
		return api.SeqType{Item: api.IntItem, Occ: api.Star}, true
	case called{"empty", 1}, called{"exists", 1}, called{"not", 1}, called{"boolean", 1}, called{"true", 0}, called{"false", 0},
		called{"contains", 2}, called{"starts-with", 2}, called{"ends-with", 2}, called{"deep-equal", 2}:
		return one(api.BoolItem), true
	case called{"string", 1}, called{"substring", 2}, called{"substring", 3}, called{"substring-before", 2}, called{"substring-after", 2},
		called{"string-join", 2}, called{"normalize-space", 1}, called{"name", 1}, called{"translate", 3}, called{"codepoints-to-string", 1}:
		return one(api.StrItem), true
	case called{"abs", 1}, called{"floor", 1}, called{"ceiling", 1}, called{"round", 1}, called{"avg", 1}:
		return api.SeqType{Item: api.DecItem, Occ: api.Opt}, true
	case called{"sum", 1}:
		return one(api.AtomItem), true
	case called{"sum", 2}, called{"max", 1}, called{"min", 1}:
		return api.SeqType{Item: api.AtomItem, Occ: api.Opt}, true
	case called{"root", 1}:
		return api.SeqType{Item: api.NodeItem, Occ: api.Opt}, true
	case called{"doc", 1}:
		return api.SeqType{Item: api.DocItem, Occ: api.Opt}, true
	case called{"error", 0}, called{"error", 1}:
		return nothing(), true
	}
	if f.name == "concat" && 2 <= f.args && f.args <= 8 {
		return one(api.StrItem), true
	}
	return api.SeqType{}, false
}

// built is the type of a call that is made of the arguments' types: is it one of these?
func built(f called, args ...api.SeqType) (api.SeqType, bool) {
	first := typeAt(args, 0)
	switch f {
	case called{"data", 1}:
		return atomized(first), true
	case called{"distinct-values", 1}:
		return some(atomized(first), api.Star), true
	case called{"reverse", 1}, called{"subsequence", 2}, called{"subsequence", 3}, called{"remove", 2}:
		return some(first, api.Star), true
	case called{"insert-before", 3}:
		return some(types.Either(first, typeAt(args, 2)), api.Star), true
	case called{"exactly-one", 1}:
		return some(first, api.One), true
	case called{"zero-or-one", 1}:
		return some(first, api.Opt), true
	case called{"one-or-more", 1}:
		return some(first, api.Plus), true
	}
	return api.SeqType{}, false
}
