package infer_test

import (
	"strconv"

	"espalier/api"
)

// declared are the types that a query can declare: of each kind, named ones by two names, with every Occ; of no items one.
func declared() []api.SeqType {
	ts := []api.SeqType{empty}
	for _, k := range kinds[1:] {
		for occ := range api.Occ(api.Occs) {
			ts = append(ts, api.SeqType{Item: k.item, Name: k.name, Occ: occ})
		}
	}
	return ts
}

// operands are variables of these types, and the expressions that ask for them.
func operands(ts ...api.SeqType) ([]api.Param, []api.Expr) {
	var vars []api.Param
	var es []api.Expr
	for i, ty := range ts {
		name := "v" + strconv.Itoa(i)
		vars, es = append(vars, api.Param{Name: name, Type: ty}), append(es, variable(name))
	}
	return vars, es
}
