package front

import (
	"wafer/api"
	"wafer/fold"
	"wafer/types"
)

// operand takes what begins with a name: a constant, a designator, a function's call.
func (p *parser) operand() api.Expr {
	pos := p.pos()
	e := p.known()
	switch e.kind {
	case ofConst:
		return e.e
	case ofVar:
		x := p.designator(e)
		// What isn't a guard would be a call, and variables aren't called.
		p.check(!p.is("("), pos, api.ErrType)
		return x
	case ofProc:
		p.check(e.t.Form != api.NoType, pos, api.ErrType)
		return p.call(pos, e)
	case ofFunction:
		return p.function(pos, e.op)
	case ofStatement:
		p.failAt(pos, api.ErrType)
	}
	p.failAt(pos, api.ErrName)
	return api.Expr{}
}

// isDesignator tells whether an expression is a designator (one in ( ) is, too).
func isDesignator(e api.Expr) bool {
	switch e.Op {
	case api.Name, api.Index, api.Field, api.Deref, api.Guard:
		return true
	}
	return false
}

// isVariable tells whether an expression is a designator that may be assigned.
func (p *parser) isVariable(e api.Expr) bool {
	for {
		switch e.Op {
		case api.Name:
			return p.isOwn(e.S)
		case api.Deref:
			return true
		case api.Index, api.Field:
			e = e.X[0]
		default:
			return false
		}
	}
}

// designator takes what is behind a variable's name.
func (p *parser) designator(e entry) api.Expr {
	x := api.Expr{Op: api.Name, T: e.t, S: e.s}
	for {
		pos := p.pos()
		switch {
		case p.take("."):
			x = p.field(pos, x)
		case p.take("["):
			x = p.index(pos, x)
			for p.take(",") {
				x = p.index(pos, x)
			}
			p.need("]")
		case p.take("^"):
			x = p.deref(pos, x)
		case p.is("(") && p.isGuard(x.T):
			x = p.guard(x)
		default:
			return x
		}
	}
}

// deref tells what a pointer points to.
func (p *parser) deref(pos int, x api.Expr) api.Expr {
	p.check(x.T.Form == api.Pointer, pos, api.ErrType)
	return api.Expr{Op: api.Deref, T: api.Type{Form: api.Record, Name: x.T.Name}, X: []api.Expr{x}}
}

// field takes a field's name.
func (p *parser) field(pos int, x api.Expr) api.Expr {
	if x.T.Form == api.Pointer {
		x = p.deref(pos, x)
	}
	p.check(x.T.Form == api.Record, pos, api.ErrType)
	at := p.pos()
	name := p.ident()
	for _, f := range p.fieldsOf(x.T.Name) {
		if f.Name == name {
			return api.Expr{Op: api.Field, T: f.T, S: name, X: []api.Expr{x}}
		}
	}
	p.failAt(at, api.ErrName)
	return api.Expr{}
}

// index takes an index.
func (p *parser) index(pos int, x api.Expr) api.Expr {
	p.check(x.T.Form == api.Array && len(x.T.Of) == 1, pos, api.ErrType)
	at := p.pos()
	i := p.exprOf(api.Int)
	p.check(!isNumber(i) || i.I >= 0 && int(i.I) < x.T.N, at, api.ErrType)
	return api.Expr{Op: api.Index, T: x.T.Of[0], X: []api.Expr{x, i}}
}

// isGuard tells whether a record that extends a pointer's is next, in ( ).
func (p *parser) isGuard(t api.Type) bool {
	if t.Form != api.Pointer || p.toks[p.at+1].Kind != api.TokIdent {
		return false
	}
	was := p.at
	p.next()
	_, e, there := p.qual()
	is := there && isRecord(e) && p.is(")") && types.Extends(e.t.Name, t.Name, p.recs)
	p.at = was
	return is
}

// guard takes such a record.
func (p *parser) guard(x api.Expr) api.Expr {
	p.need("(")
	record := p.recordName()
	p.need(")")
	return api.Expr{Op: api.Guard, T: api.Type{Form: api.Pointer, Name: record}, S: record, X: []api.Expr{x}}
}

// call takes the arguments of a procedure's call.
func (p *parser) call(pos int, e entry) api.Expr {
	return p.called(pos, e, p.arguments())
}

// called tells a procedure's call.
func (p *parser) called(pos int, e entry, args []api.Expr) api.Expr {
	p.check(len(args) == len(e.params), pos, api.ErrType)
	for i, q := range e.params {
		if q.Ref {
			p.check(p.isVariable(args[i]) && types.Same(q.T, args[i].T), pos, api.ErrType)
		} else {
			args[i] = coerced(q.T, args[i])
			p.check(types.Fits(q.T, args[i].T, p.recs), pos, api.ErrType)
		}
	}
	return api.Expr{Op: api.Call, T: e.t, S: e.s, X: args}
}

// arguments takes expressions in ( ).
func (p *parser) arguments() []api.Expr {
	p.need("(")
	var l []api.Expr
	if !p.is(")") {
		l = append(l, p.expr())
		for p.take(",") {
			l = append(l, p.expr())
		}
	}
	p.need(")")
	return l
}

// function takes a standard function's call.
func (p *parser) function(pos, op int) api.Expr {
	l := p.arguments()
	if op == api.Ord && len(l) == 1 {
		l[0] = coerced(types.Basic(api.Char), l[0])
	}
	p.check(p.isFunctionOf(op, l), pos, api.ErrType)
	switch op {
	case lengthOf:
		return fold.Num(api.Int, int32(l[0].T.N))
	case api.Odd, api.Eof:
		return p.made(pos, op, api.Bool, l...)
	case api.Chr:
		return p.made(pos, op, api.Char, l...)
	}
	return p.made(pos, op, api.Int, l...)
}

// isFunctionOf tells whether a standard function is one of these.
func (p *parser) isFunctionOf(op int, l []api.Expr) bool {
	switch op {
	case api.Eof:
		return len(l) == 0
	case api.Lsl, api.Asr, api.Ror:
		return len(l) == 2 && l[0].T.Form == api.Int && l[1].T.Form == api.Int
	}
	if len(l) != 1 {
		return false
	}
	form := l[0].T.Form
	switch op {
	case lengthOf:
		return form == api.Array && isDesignator(l[0])
	case api.Ord:
		return form == api.Char || form == api.Bool || form == api.Set
	}
	return form == api.Int
}
