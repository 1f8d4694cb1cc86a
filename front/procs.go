package front

import (
	"wafer/api"
	"wafer/types"
)

// procedure takes a procedure, behind its first word.
func (p *parser) procedure() {
	d := p.idef()
	q := api.Proc{Name: d.name, Export: d.export}
	// Its parameters are to have other names than it.
	p.declare(d.pos, d.name, entry{kind: ofProc})
	p.locals = map[string]entry{}
	p.heading(&q)
	p.names[d.name] = entry{kind: ofProc, t: q.Result, s: p.own + d.name, params: q.Params}
	p.need(";")
	if p.take("VAR") {
		p.localVars(&q)
	}
	q.Body = p.block()
	p.result(&q)
	p.end(d.name)
	p.locals = nil
	p.m.Procs = append(p.m.Procs, q)
}

// heading takes a procedure's parameters and result's type.
func (p *parser) heading(q *api.Proc) {
	if !p.take("(") {
		return
	}
	if !p.is(")") {
		p.params(q)
		for p.take(";") {
			p.params(q)
		}
	}
	p.need(")")
	if p.take(":") {
		q.Result = p.value()
	}
}

// params takes parameters of one type.
func (p *parser) params(q *api.Proc) {
	ref := p.take("VAR")
	names := p.idents()
	p.need(":")
	var t api.Type
	if ref {
		pos := p.pos()
		t = p.typ()
		p.words(pos, t)
	} else {
		t = p.value()
	}
	for _, d := range names {
		p.declareLocal(d.pos, d.name, t, ref)
		q.Params = append(q.Params, api.Param{Name: d.name, Ref: ref, T: t})
	}
}

// value takes the type of what is handed over as a value, which has one word.
func (p *parser) value() api.Type {
	pos := p.pos()
	t := p.typ()
	switch t.Form {
	case api.Int, api.Char, api.Bool, api.Set, api.Pointer:
	default:
		p.failAt(pos, api.ErrType)
	}
	return t
}

// localVars takes a procedure's variables.
func (p *parser) localVars(q *api.Proc) {
	words := len(q.Params) // each has one, as a value or as a place
	for p.isIdent() {
		names := p.idents()
		p.need(":")
		pos := p.pos()
		t := p.typ()
		words += len(names) * p.words(pos, t)
		p.check(words <= api.MaxFrame, pos, api.ErrLimit)
		p.need(";")
		for _, d := range names {
			p.declareLocal(d.pos, d.name, t, false)
			q.Locals = append(q.Locals, api.Var{Name: d.name, T: t})
		}
	}
}

// result takes what a procedure returns, if it has a result.
func (p *parser) result(q *api.Proc) {
	if q.Result.Form == api.NoType {
		return
	}
	p.need("RETURN")
	pos := p.pos()
	e := coerced(q.Result, p.expr())
	p.check(types.Fits(q.Result, e.T, p.recs), pos, api.ErrType)
	q.Ret = []api.Expr{e}
}
