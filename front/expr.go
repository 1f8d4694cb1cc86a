package front

import (
	"wafer/api"
	"wafer/fold"
	"wafer/types"
)

// relations are the signs between two simple expressions, but IS.
func relations(t api.Token) (op int, is bool) {
	if t.Kind != api.TokSign && t.Kind != api.TokKey {
		return 0, false
	}
	switch t.S {
	case "=":
		return api.Eq, true
	case "#":
		return api.Ne, true
	case "<":
		return api.Lt, true
	case "<=":
		return api.Le, true
	case ">":
		return api.Gt, true
	case ">=":
		return api.Ge, true
	case "IN":
		return api.In, true
	}
	return 0, false
}

// sums are the signs between terms.
func sums(t api.Token) (op int, is bool) {
	switch {
	case isWord(t, "+"):
		return api.Add, true
	case isWord(t, "-"):
		return api.Sub, true
	case isWord(t, "OR"):
		return api.Or, true
	}
	return 0, false
}

// products are the signs between factors; / stands for itself, since DIV is of INTEGER alone.
func products(t api.Token) (op int, is bool) {
	switch {
	case isWord(t, "*"):
		return api.Mul, true
	case isWord(t, "/"), isWord(t, "DIV"):
		return api.Div, true
	case isWord(t, "MOD"):
		return api.Mod, true
	case isWord(t, "&"):
		return api.And, true
	}
	return 0, false
}

// expr takes an expression.
func (p *parser) expr() api.Expr {
	pos := p.pos()
	a := p.simple()
	if p.take("IS") {
		return p.test(pos, a)
	}
	op, is := relations(p.tok())
	if !is {
		return a
	}
	p.next()
	b := p.simple()
	a, b = coerced(b.T, a), coerced(a.T, b)
	p.check(p.compares(op, a.T, b.T), pos, api.ErrType)
	return p.made(pos, op, api.Bool, a, b)
}

// test takes the record behind IS.
func (p *parser) test(pos int, x api.Expr) api.Expr {
	record := p.recordName()
	p.check(x.T.Form == api.Pointer && types.Extends(record, x.T.Name, p.recs), pos, api.ErrType)
	return api.Expr{Op: api.Is, T: types.Basic(api.Bool), S: record, X: []api.Expr{x}}
}

// compares tells whether a relation is one of such two.
func (p *parser) compares(op int, a, b api.Type) bool {
	switch op {
	case api.In:
		return a.Form == api.Int && b.Form == api.Set
	case api.Eq, api.Ne:
		return p.equals(a, b)
	}
	return a.Form == b.Form && (a.Form == api.Int || a.Form == api.Char)
}

// equals tells whether two may be the same.
func (p *parser) equals(a, b api.Type) bool {
	switch a.Form {
	case api.Int, api.Char, api.Bool, api.Set:
		return a.Form == b.Form
	case api.Nil:
		return b.Form == api.Nil || b.Form == api.Pointer
	case api.Pointer:
		return types.Fits(a, b, p.recs) || types.Fits(b, a, p.recs)
	}
	return false
}

// coerced tells a string of one byte as the CHAR that it is, if one is needed.
func coerced(to api.Type, e api.Expr) api.Expr {
	if to.Form == api.Char && isString(e) && len(e.S) == 1 {
		return fold.Num(api.Char, int32(e.S[0]))
	}
	return e
}

// simple takes a sum.
func (p *parser) simple() api.Expr {
	pos := p.pos()
	plus, minus := p.take("+"), false
	if !plus {
		minus = p.take("-")
	}
	a := p.term()
	p.check(!plus || a.T.Form == api.Int, pos, api.ErrType)
	if minus {
		p.check(a.T.Form == api.Int || a.T.Form == api.Set, pos, api.ErrType)
		a = p.made(pos, api.Neg, a.T.Form, a)
	}
	for {
		op, is := sums(p.tok())
		if !is {
			return a
		}
		p.next()
		b := p.term()
		p.check(adds(op, a.T.Form, b.T.Form), pos, api.ErrType)
		a = p.made(pos, op, a.T.Form, a, b)
	}
}

// adds tells whether a sum is one of such two.
func adds(op, a, b int) bool {
	if op == api.Or {
		return a == api.Bool && b == api.Bool
	}
	return a == b && (a == api.Int || a == api.Set)
}

// term takes a product.
func (p *parser) term() api.Expr {
	pos := p.pos()
	a := p.factor()
	for {
		sign := p.tok()
		op, is := products(sign)
		if !is {
			return a
		}
		p.next()
		b := p.factor()
		p.check(multiplies(sign.S, a.T.Form, b.T.Form), pos, api.ErrType)
		a = p.made(pos, op, a.T.Form, a, b)
	}
}

// multiplies tells whether a product is one of such two.
func multiplies(sign string, a, b int) bool {
	if a != b {
		return false
	}
	switch sign {
	case "*":
		return a == api.Int || a == api.Set
	case "/":
		return a == api.Set
	case "&":
		return a == api.Bool
	}
	return a == api.Int
}

// made tells an operator's expression of a form, reckoned where it may be.
func (p *parser) made(pos, op, form int, x ...api.Expr) api.Expr {
	e := api.Expr{Op: op, T: types.Basic(form), X: x}
	// What isn't known stays as it is: fold would copy it whole, sign by sign.
	if !areKnown(x) {
		return e
	}
	known, err := fold.Expr(e)
	p.check(err == api.OK, pos, err)
	return known
}

// areKnown tells whether all are constants (of elements and spans: their parts).
func areKnown(l []api.Expr) bool {
	for _, x := range l {
		if x.Op == api.One || x.Op == api.Span {
			if !areKnown(x.X) {
				return false
			}
		} else if !fold.Is(x) {
			return false
		}
	}
	return true
}

// factor takes a factor.
func (p *parser) factor() api.Expr {
	t := p.tok()
	switch t.Kind {
	case api.TokIdent:
		return p.operand()
	case api.TokInt:
		p.next()
		return fold.Num(api.Int, t.N)
	case api.TokChar:
		p.next()
		return fold.Num(api.Char, t.N)
	case api.TokStr:
		p.next()
		return api.Expr{Op: api.Lit, T: types.Basic(api.Str), S: t.S}
	}
	switch {
	case p.take("NIL"):
		return fold.Num(api.Nil, 0)
	case p.take("TRUE"):
		return fold.Num(api.Bool, 1)
	case p.take("FALSE"):
		return fold.Num(api.Bool, 0)
	case p.take("{"):
		return p.set(t.Pos)
	case p.take("("):
		return p.bracket(t.Pos)
	case p.take("~"):
		x := p.factor()
		p.check(x.T.Form == api.Bool, t.Pos, api.ErrType)
		return p.made(t.Pos, api.Not, api.Bool, x)
	}
	p.fail(api.ErrSyntax)
	return api.Expr{}
}

// bracket takes an expression in ( ), behind the first of them.
func (p *parser) bracket(pos int) api.Expr {
	p.brackets++
	p.check(p.brackets <= api.MaxNest, pos, api.ErrLimit)
	e := p.expr()
	p.need(")")
	p.brackets--
	return e
}

// set takes a set, behind its first sign.
func (p *parser) set(pos int) api.Expr {
	var l []api.Expr
	if !p.is("}") {
		l = append(l, p.element())
		for p.take(",") {
			l = append(l, p.element())
		}
	}
	p.need("}")
	return p.made(pos, api.SetOf, api.Set, l...)
}

// element takes an element, or a span of them.
func (p *parser) element() api.Expr {
	e := api.Expr{Op: api.One, X: []api.Expr{p.exprOf(api.Int)}}
	if p.take("..") {
		e = api.Expr{Op: api.Span, X: append(e.X, p.exprOf(api.Int))}
	}
	return e
}

// exprOf takes an expression that must be of a form.
func (p *parser) exprOf(form int) api.Expr {
	pos := p.pos()
	e := p.expr()
	p.check(e.T.Form == form, pos, api.ErrType)
	return e
}
