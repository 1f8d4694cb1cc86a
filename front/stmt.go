package front

import (
	"wafer/api"
	"wafer/fold"
	"wafer/types"
)

// body takes statements.
func (p *parser) body() []api.Stmt {
	var l []api.Stmt
	for {
		if s, there := p.stmt(); there {
			l = append(l, s)
		}
		if !p.take(";") {
			return l
		}
	}
}

// stmt takes a statement, if there is one.
func (p *parser) stmt() (api.Stmt, bool) {
	switch {
	case p.isIdent():
		return p.simpleStmt(), true
	case p.take("IF"):
		return p.choice(), true
	case p.take("WHILE"):
		return p.while(), true
	case p.take("REPEAT"):
		return p.repeat(), true
	case p.take("FOR"):
		return p.loop(), true
	case p.take("CASE"):
		return p.cases(), true
	}
	return api.Stmt{}, false
}

// simpleStmt takes a statement that begins with a name: an assignment or a call.
func (p *parser) simpleStmt() api.Stmt {
	pos := p.pos()
	e := p.known()
	switch e.kind {
	case ofVar:
		return p.assign(pos, p.designator(e))
	case ofProc:
		p.check(e.t.Form == api.NoType, pos, api.ErrType)
		return api.Stmt{Op: api.Do, X: []api.Expr{p.called(pos, e, p.someArguments())}}
	case ofStatement:
		return p.command(pos, e.op)
	case ofConst, ofFunction:
		p.failAt(pos, api.ErrType)
	}
	p.failAt(pos, api.ErrName)
	return api.Stmt{}
}

// someArguments takes expressions in ( ), if there are ( ).
func (p *parser) someArguments() []api.Expr {
	if !p.is("(") {
		return nil
	}
	return p.arguments()
}

// assign takes what is assigned.
func (p *parser) assign(pos int, to api.Expr) api.Stmt {
	p.check(!p.is("("), pos, api.ErrType)
	p.need(":=")
	p.check(p.isVariable(to), pos, api.ErrType)
	at := p.pos()
	from := coerced(to.T, p.expr())
	p.check(types.Fits(to.T, from.T, p.recs) || isRoomFor(to.T, from), at, api.ErrType)
	return api.Stmt{Op: api.Assign, X: []api.Expr{to, from}}
}

// isChars tells whether a type is an array of CHAR.
func isChars(t api.Type) bool {
	return t.Form == api.Array && len(t.Of) == 1 && t.Of[0].Form == api.Char
}

// isRoomFor tells whether an expression is a string that an array of CHAR has room for.
func isRoomFor(to api.Type, e api.Expr) bool {
	return isChars(to) && isString(e) && len(e.S) < to.N
}

// command takes a standard procedure's call.
func (p *parser) command(pos, op int) api.Stmt {
	var l []api.Expr
	if op == api.PutLn {
		l = p.someArguments()
	} else {
		l = p.arguments()
	}
	if (op == api.Inc || op == api.Dec) && len(l) == 1 {
		l = append(l, fold.Num(api.Int, 1))
	}
	if op == api.PutChar && len(l) == 1 {
		l[0] = coerced(types.Basic(api.Char), l[0])
	}
	p.check(p.isCommandOf(op, l), pos, api.ErrType)
	return api.Stmt{Op: op, X: l}
}

// isCommandOf tells whether a standard procedure is one of these.
func (p *parser) isCommandOf(op int, l []api.Expr) bool {
	switch op {
	case api.PutLn:
		return len(l) == 0
	case api.Inc, api.Dec:
		return len(l) == 2 && p.isVariableOf(api.Int, l[0]) && l[1].T.Form == api.Int
	case api.Incl, api.Excl:
		return len(l) == 2 && p.isVariableOf(api.Set, l[0]) && l[1].T.Form == api.Int
	}
	if len(l) != 1 {
		return false
	}
	x := l[0]
	switch op {
	case api.New:
		return p.isVariableOf(api.Pointer, x)
	case api.Read:
		return p.isVariableOf(api.Char, x)
	case api.Assert:
		return x.T.Form == api.Bool
	case api.PutInt:
		return x.T.Form == api.Int
	case api.PutChar:
		return x.T.Form == api.Char
	}
	return isString(x) || isChars(x.T) && isDesignator(x)
}

// isVariableOf tells whether an expression is a variable of a form.
func (p *parser) isVariableOf(form int, x api.Expr) bool {
	return x.T.Form == form && p.isVariable(x)
}

// choice takes an IF, behind that.
func (p *parser) choice() api.Stmt {
	s := p.branches(api.If, "THEN")
	if p.take("ELSE") {
		s.B = append(s.B, p.body())
	}
	p.need("END")
	return s
}

// while takes a WHILE, behind that.
func (p *parser) while() api.Stmt {
	s := p.branches(api.While, "DO")
	p.need("END")
	return s
}

// branches takes conditions, and what hangs on each.
func (p *parser) branches(op int, then string) api.Stmt {
	s := api.Stmt{Op: op}
	for {
		s.X = append(s.X, p.exprOf(api.Bool))
		p.need(then)
		s.B = append(s.B, p.body())
		if !p.take("ELSIF") {
			return s
		}
	}
}

// repeat takes a REPEAT, behind that.
func (p *parser) repeat() api.Stmt {
	b := p.body()
	p.need("UNTIL")
	return api.Stmt{Op: api.Repeat, X: []api.Expr{p.exprOf(api.Bool)}, B: [][]api.Stmt{b}}
}

// loop takes a FOR, behind that.
func (p *parser) loop() api.Stmt {
	x := []api.Expr{p.counter(), p.exprOf(api.Int)}
	p.need("TO")
	x = append(x, p.exprOf(api.Int))
	by := int32(1)
	if p.take("BY") {
		pos := p.pos()
		e := p.expr()
		p.check(isNumber(e) && e.I != 0, pos, api.ErrType)
		by = e.I
	}
	p.need("DO")
	b := p.body()
	p.need("END")
	return api.Stmt{Op: api.For, X: x, B: [][]api.Stmt{b}, I: []int32{by}}
}

// counter takes the variable that a FOR counts by, and the sign behind it.
func (p *parser) counter() api.Expr {
	pos := p.pos()
	e, there := p.find(p.ident())
	p.need(":=")
	p.check(there && e.kind == ofVar, pos, api.ErrName)
	p.check(e.t.Form == api.Int && !e.ref, pos, api.ErrType)
	return api.Expr{Op: api.Name, T: e.t, S: e.s}
}

// cases takes a CASE, behind that.
func (p *parser) cases() api.Stmt {
	pos := p.pos()
	x := p.expr()
	p.check(x.T.Form == api.Int || x.T.Form == api.Char, pos, api.ErrType)
	p.need("OF")
	s := api.Stmt{Op: api.Case, X: []api.Expr{x}}
	for {
		if !p.is("|") && !p.is("END") {
			p.oneCase(&s, x.T.Form)
		}
		if !p.take("|") {
			break
		}
	}
	p.need("END")
	return s
}

// oneCase takes ranges, and what is done where a value is in one of them.
func (p *parser) oneCase(s *api.Stmt, form int) {
	for {
		p.oneRange(s, form)
		if !p.take(",") {
			break
		}
	}
	p.need(":")
	s.B = append(s.B, p.body())
}

// oneRange takes a range that meets none of s's.
func (p *parser) oneRange(s *api.Stmt, form int) {
	pos := p.pos()
	from := p.label(form)
	to := from
	if p.take("..") {
		to = p.label(form)
	}
	p.check(from <= to, pos, api.ErrType)
	for i := 0; i < len(s.I); i += 3 {
		p.check(to < s.I[i] || from > s.I[i+1], pos, api.ErrType)
	}
	s.I = append(s.I, from, to, int32(len(s.B)))
}

// label takes an end of a range.
func (p *parser) label(form int) int32 {
	pos := p.pos()
	e := coerced(types.Basic(form), p.expr())
	p.check(e.Op == api.Lit && e.T.Form == form, pos, api.ErrType)
	return e.I
}
