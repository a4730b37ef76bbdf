package norm

import "espalier/api"

// computed brings what makes an element or an attribute down: where its name is told, that is an expression from now on.
func (q query) computed(e api.Expr) api.Expr {
	kids := q.cores(e.Kids)
	if e.Name == "" {
		return of(e.Op, kids...)
	}
	return of(e.Op, append([]api.Expr{text(e.Name)}, kids...)...)
}

// direct brings a Direct down.
func (q query) direct(e api.Expr) api.Expr {
	kids := []api.Expr{text(e.Name)}
	for _, kid := range e.Kids {
		kids = append(kids, q.content(kid))
	}
	return of(api.MakeElem, kids...)
}

// content brings down what stands in a Direct.
func (q query) content(e api.Expr) api.Expr {
	switch {
	case e.Op == api.DirAttr:
		return q.attribute(e)
	case written(e):
		return of(api.MakeText, text(e.Val.S))
	}
	return q.core(e)
}

// attribute brings a DirAttr down.
func (q query) attribute(e api.Expr) api.Expr {
	kids := []api.Expr{text(e.Name)}
	for _, kid := range e.Kids {
		if written(kid) {
			kids = append(kids, text(kid.Val.S))
		} else {
			kids = append(kids, q.core(kid))
		}
	}
	return of(api.MakeAttr, kids...)
}

// written tells whether an expression is text as a Direct has it.
func written(e api.Expr) bool {
	return e.Op == api.Lit && e.Val.Kind == api.Untyped
}
