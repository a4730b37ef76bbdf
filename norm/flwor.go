package norm

import (
	"slices"

	"espalier/api"
)

// flwor brings a Flwor down.
func (q query) flwor(e api.Expr) api.Expr {
	if order := slices.IndexFunc(e.Kids, isOrder); order >= 0 {
		return q.ordered(e.Kids[:order], e.Kids[order], e.Kids[order+1:])
	}
	// From the back, for each clause lies around what stands behind it.
	var rest api.Expr
	for i, kid := range slices.Backward(e.Kids) {
		if i == len(e.Kids)-1 {
			rest = q.core(kid)
		} else {
			rest = q.around(kid, rest)
		}
	}
	return rest
}

func isOrder(e api.Expr) bool { return e.Op == api.Order }

// around lays a clause around the rest, whose core is there.
func (q query) around(clause, rest api.Expr) api.Expr {
	kids := append(q.cores(clause.Kids), rest)
	if clause.Op == api.Where {
		return of(api.If, append(kids, of(api.Seq))...)
	}
	clause.Kids = kids
	return clause
}

// ordered brings a Flwor down that has an Order. Ahead of that stands one For, or one For and a Where, for what is read is right.
func (q query) ordered(ahead []api.Expr, order api.Expr, returned []api.Expr) api.Expr {
	loop, kept := ahead[0], []api.Expr{value(api.Atom{Kind: api.Bool, B: true})}
	if len(ahead) > 1 {
		kept = ahead[1].Kids
	}
	return api.Expr{
		Op: api.Order, Name: loop.Name, At: loop.At, Down: order.Down,
		Kids: q.cores(slices.Concat(loop.Kids, kept, order.Kids, returned)),
	}
}
