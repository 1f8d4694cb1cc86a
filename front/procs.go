package front

import (
	"wafer/api"
	"wafer/types"
)

// procedure takes a procedure, behind its first word.
func (p *parser) procedure() {
	d := p.idef()
	q := api.Proc{Name: d.name, Export: d.export}
	// Its parameters are to have other names than it.
	p.declare(d.pos, d.name, entry{kind: ofProc})
	p.locals = map[string]entry{}
	words := p.heading(&q)
	p.names[d.name] = entry{kind: ofProc, t: q.Result, s: p.own + d.name, params: q.Params}
	p.need(";")
	if p.take("VAR") {
		p.localVars(&q, words)
	}
	q.Body = p.block()
	p.result(&q)
	p.end(d.name)
	p.locals = nil
	p.m.Procs = append(p.m.Procs, q)
}

// heading takes a procedure's parameters and result's type, and tells how many words its parameters have.
func (p *parser) heading(q *api.Proc) int {
	if !p.take("(") {
		return 0
	}
	pos := p.pos()
	if !p.is(")") {
		p.params(q)
		for p.take(";") {
			p.params(q)
		}
	}
	p.need(")")
	p.check(len(q.Params) <= api.MaxFrame, pos, api.ErrLimit)
	if p.take(":") {
		q.Result = p.value()
	}
	return len(q.Params)
}

// params takes parameters of one type.
func (p *parser) params(q *api.Proc) {
	ref := p.take("VAR")
	names := p.idents()
	p.need(":")
	var t api.Type
	if ref {
		pos := p.pos()
		t = p.typ()
		p.words(pos, t)
	} else {
		t = p.value()
	}
	for _, d := range names {
		p.declareLocal(d.pos, d.name, t, ref)
		q.Params = append(q.Params, api.Param{Name: d.name, Ref: ref, T: t})
	}
}

// value takes the type of what is handed over as a value, which has one word.
func (p *parser) value() api.Type {
	pos := p.pos()
	t := p.typ()
	switch t.Form {
	case api.Int, api.Char, api.Bool, api.Set, api.Pointer:
	default:
		p.failAt(pos, api.ErrType)
	}
	return t
}

// localVars takes a procedure's variables; its parameters have so many words.
func (p *parser) localVars(q *api.Proc, words int) {
	for p.isIdent() {
		names := p.idents()
		p.need(":")
		pos := p.pos()
		t := p.typ()
		words += len(names) * p.words(pos, t)
		p.check(words <= api.MaxFrame, pos, api.ErrLimit)
		p.need(";")
		for _, d := range names {
			p.declareLocal(d.pos, d.name, t, false)
			q.Locals = append(q.Locals, api.Var{Name: d.name, T: t})
		}
	}
}

// result takes what a procedure returns, just if it has a result.
func (p *parser) result(q *api.Proc) {
	has := q.Result.Form != api.NoType
	p.check(p.is("RETURN") == has, p.pos(), api.ErrSyntax)
	if !has {
		return
	}
	p.next()
	pos := p.pos()
	e := coerced(q.Result, p.expr())
	p.check(types.Fits(q.Result, e.T, p.recs), pos, api.ErrType)
	q.Ret = []api.Expr{e}
}
