package recheck

import (
	"strings"

	"wafer/api"
	"wafer/types"
)

// expr looks at an expression and all that is in it.
func (c *checker) expr(e api.Expr) api.Errno {
	if err := each(e.X, c.expr); err != api.OK {
		return err
	}
	if e.Op == api.Lit {
		return unless(isLit(e), api.ErrType)
	}
	if e.I != 0 || e.S != "" && !hasName(e.Op) {
		return api.ErrType
	}
	t, err := c.typeOf(e)
	if err != api.OK {
		return err
	}
	return unless(isSame(t, e.T), api.ErrType)
}

// hasName tells whether a kind has an S.
func hasName(op int) bool {
	switch op {
	case api.Name, api.Field, api.Guard, api.Call, api.Is:
		return true
	}
	return false
}

// typeOf tells the type that an expression must have, whose X are right.
func (c *checker) typeOf(e api.Expr) (api.Type, api.Errno) {
	switch e.Op {
	case api.Name:
		return c.variable(e)
	case api.Index, api.Field, api.Deref, api.Guard:
		return c.part(e)
	case api.Is:
		if !haveForms(e.X, api.Pointer) {
			return api.Type{}, api.ErrType
		}
		return types.Basic(api.Bool), c.extension(e)
	case api.Call:
		if err := c.call(e); err != api.OK {
			return api.Type{}, err
		}
		t := c.procs[e.S].Result
		return t, unless(t.Form != api.NoType, api.ErrType)
	case api.SetOf:
		return types.Basic(api.Set), unless(areElements(e.X), api.ErrType)
	case api.Eq, api.Ne:
		return types.Basic(api.Bool), unless(len(e.X) == 2 && c.equals(e.X[0].T, e.X[1].T), api.ErrType)
	case api.Eof:
		if c.imports[input] == 0 {
			return api.Type{}, api.ErrName
		}
	}
	form, is := operator(e.Op, e.X)
	return types.Basic(form), unless(is, api.ErrType)
}

// variable tells the type of a variable that is there.
func (c *checker) variable(e api.Expr) (api.Type, api.Errno) {
	if len(e.X) > 0 {
		return api.Type{}, api.ErrType
	}
	if v, there := c.locals[e.S]; there {
		return v.t, api.OK
	}
	t, there := c.vars[e.S]
	return t, unless(there, api.ErrName)
}

// part tells the type of what is in a variable, or behind a pointer.
func (c *checker) part(e api.Expr) (api.Type, api.Errno) {
	if len(e.X) == 0 || !isDesignator(e.X[0]) {
		return api.Type{}, api.ErrType
	}
	x := e.X[0].T
	switch {
	case e.Op == api.Index && haveForms(e.X, api.Array, api.Int) && len(x.Of) == 1:
		return x.Of[0], unless(e.X[1].Op != api.Lit || e.X[1].I >= 0 && int(e.X[1].I) < x.N, api.ErrType)
	case e.Op == api.Field && haveForms(e.X, api.Record):
		t, there := c.field(x.Name, e.S)
		return t, unless(there, api.ErrName)
	case e.Op == api.Deref && haveForms(e.X, api.Pointer):
		return api.Type{Form: api.Record, Name: x.Name}, api.OK
	case e.Op == api.Guard && haveForms(e.X, api.Pointer):
		return api.Type{Form: api.Pointer, Name: e.S}, c.extension(e)
	}
	return api.Type{}, api.ErrType
}

// extension looks at the record that a pointer is asked for.
func (c *checker) extension(e api.Expr) api.Errno {
	if c.named[e.S] == 0 {
		return api.ErrName
	}
	return unless(types.Extends(e.S, e.X[0].T.Name, c.recs), api.ErrType)
}

// isDesignator tells whether an expression is a variable, or a part of one.
func isDesignator(e api.Expr) bool {
	switch e.Op {
	case api.Name, api.Index, api.Field, api.Deref, api.Guard:
		return true
	}
	return false
}

// mayBeAssigned tells whether a right expression is a designator that may be assigned.
func (c *checker) mayBeAssigned(e api.Expr) bool {
	for {
		switch e.Op {
		case api.Name:
			return !strings.Contains(e.S, ".") || strings.HasPrefix(e.S, c.own)
		case api.Deref:
			return true
		case api.Index, api.Field:
			e = e.X[0]
		default:
			return false
		}
	}
}

// call looks at a call of a procedure, whose arguments are right.
func (c *checker) call(e api.Expr) api.Errno {
	q, there := c.procs[e.S]
	if !there {
		return api.ErrName
	}
	if len(e.X) != len(q.Params) {
		return api.ErrType
	}
	for i, p := range q.Params {
		var is bool
		if p.Ref {
			is = c.mayBeAssigned(e.X[i]) && types.Same(p.T, e.X[i].T)
		} else {
			is = types.Fits(p.T, e.X[i].T, c.recs)
		}
		if !is {
			return api.ErrType
		}
	}
	return api.OK
}

// equals tells whether = may stand between two types.
func (c *checker) equals(a, b api.Type) bool {
	switch a.Form {
	case api.Int, api.Char, api.Bool, api.Set:
		return a.Form == b.Form
	case api.Nil:
		return b.Form == api.Nil || b.Form == api.Pointer
	case api.Pointer:
		return types.Fits(a, b, c.recs) || types.Fits(b, a, c.recs)
	}
	return false
}

// haveForms tells whether expressions are of just these forms.
func haveForms(l []api.Expr, forms ...int) bool {
	if len(l) != len(forms) {
		return false
	}
	for i, x := range l {
		if x.T.Form != forms[i] {
			return false
		}
	}
	return true
}

// areElements tells whether all are what a set is made of.
func areElements(l []api.Expr) bool {
	for _, x := range l {
		if x.Op != api.One && x.Op != api.Span {
			return false
		}
	}
	return true
}

// operator tells the form of what an operator makes of expressions, if it is one of these.
func operator(op int, x []api.Expr) (int, bool) {
	switch op {
	case api.Add, api.Sub, api.Mul, api.Div:
		if haveForms(x, api.Set, api.Set) {
			return api.Set, true
		}
		return api.Int, haveForms(x, api.Int, api.Int)
	case api.Mod, api.Lsl, api.Asr, api.Ror:
		return api.Int, haveForms(x, api.Int, api.Int)
	case api.Neg:
		if haveForms(x, api.Set) {
			return api.Set, true
		}
		return api.Int, haveForms(x, api.Int)
	case api.Abs:
		return api.Int, haveForms(x, api.Int)
	case api.Odd:
		return api.Bool, haveForms(x, api.Int)
	case api.Chr:
		return api.Char, haveForms(x, api.Int)
	case api.Ord:
		return api.Int, haveForms(x, api.Char) || haveForms(x, api.Bool) || haveForms(x, api.Set)
	case api.Not:
		return api.Bool, haveForms(x, api.Bool)
	case api.Or, api.And:
		return api.Bool, haveForms(x, api.Bool, api.Bool)
	case api.Lt, api.Le, api.Gt, api.Ge:
		return api.Bool, haveForms(x, api.Int, api.Int) || haveForms(x, api.Char, api.Char)
	case api.In:
		return api.Bool, haveForms(x, api.Int, api.Set)
	case api.One:
		return api.NoType, haveForms(x, api.Int)
	case api.Span:
		return api.NoType, haveForms(x, api.Int, api.Int)
	case api.Eof:
		return api.Bool, len(x) == 0
	}
	return api.NoType, false
}
