package front

import (
	"wafer/api"
	"wafer/types"
)

// mark is a name that is declared: where, and whether it is exported.
type mark struct {
	pos    int
	name   string
	export bool
}

// forward is a record that is pointed to ahead of its declaration.
type forward struct {
	pos  int
	name string
}

// maxTypes is how many types may be in one another.
const maxTypes = 8

// idef takes a name that is declared.
func (p *parser) idef() mark {
	m := mark{pos: p.pos(), name: p.ident()}
	m.export = p.take("*")
	return m
}

// idents takes names without a mark of export.
func (p *parser) idents() []mark {
	var l []mark
	for {
		l = append(l, mark{pos: p.pos(), name: p.ident()})
		if !p.take(",") {
			return l
		}
	}
}

// constant takes a constant's declaration.
func (p *parser) constant() {
	d := p.idef()
	p.need("=")
	pos := p.pos()
	e := p.expr()
	p.check(isConstant(e), pos, api.ErrType)
	p.need(";")
	p.declare(d.pos, d.name, entry{kind: ofConst, e: e})
	p.m.Consts = append(p.m.Consts, api.Const{Name: d.name, Export: d.export, E: e})
}

// types takes the section of types.
func (p *parser) types() {
	p.inTypes = true
	for p.isIdent() {
		d := p.idef()
		p.need("=")
		if p.is("RECORD") {
			p.record(d)
		} else {
			p.named(d)
		}
		p.need(";")
	}
	p.inTypes = false
	for _, f := range p.pointed {
		e, there := p.names[f.name]
		p.check(there && isRecord(e) && e.t.Name == p.own+f.name, f.pos, api.ErrName)
	}
}

// isRecord tells whether a name stands for a record.
func isRecord(e entry) bool { return e.kind == ofType && e.t.Form == api.Record }

// named takes the type that a name stands for.
func (p *parser) named(d mark) {
	pos := p.pos()
	t := p.typ()
	p.words(pos, t)
	p.declare(d.pos, d.name, entry{kind: ofType, t: t})
	p.m.Names = append(p.m.Names, api.Var{Name: d.name, Export: d.export, T: t})
}

// record takes a record.
func (p *parser) record(d mark) {
	p.need("RECORD")
	r := api.Rec{Name: d.name, Export: d.export}
	used := map[string]int{}
	if p.take("(") {
		r.Base = p.recordName()
		p.need(")")
		for _, f := range p.fieldsOf(r.Base) {
			used[f.Name] = 1
		}
	}
	for {
		if p.isIdent() {
			r.Fields = append(r.Fields, p.fieldList(used)...)
		}
		if !p.take(";") {
			break
		}
	}
	p.need("END")
	t := api.Type{Form: api.Record, Name: p.own + d.name}
	p.declare(d.pos, d.name, entry{kind: ofType, t: t})
	p.recs[t.Name], p.visible[t.Name] = r, 1
	p.words(d.pos, t)
	p.m.Recs = append(p.m.Recs, r)
}

// fieldList takes fields of one type.
func (p *parser) fieldList(used map[string]int) []api.Var {
	names := p.idents()
	p.need(":")
	t := p.typ()
	var l []api.Var
	for _, d := range names {
		p.check(used[d.name] == 0 && !isTaken(d.name), d.pos, api.ErrName)
		used[d.name] = 1
		l = append(l, api.Var{Name: d.name, T: t})
	}
	return l
}

// recordName takes the name of a record that may be named, and tells it as the tree has it.
func (p *parser) recordName() string {
	pos := p.pos()
	e := p.known()
	p.check(e.kind == ofType, pos, api.ErrName)
	p.check(e.t.Form == api.Record, pos, api.ErrType)
	p.nameable(pos, e.t)
	return e.t.Name
}

// nameable gives up, if a type names a record that a declaration may not.
func (p *parser) nameable(pos int, t api.Type) {
	for t.Form == api.Array && len(t.Of) > 0 {
		t = t.Of[0]
	}
	if t.Form == api.Record || t.Form == api.Pointer {
		p.check(p.visible[t.Name] == 1, pos, api.ErrName)
	}
}

// typ takes a type.
func (p *parser) typ() api.Type {
	pos := p.pos()
	switch {
	case p.take("ARRAY"):
		n := p.length()
		p.need("OF")
		t := api.Type{Form: api.Array, N: n, Of: []api.Type{p.typ()}}
		// Not later: deeper ones would be gone through again and again till then.
		p.check(nested(t) <= maxTypes, pos, api.ErrLimit)
		return t
	case p.take("POINTER"):
		p.need("TO")
		return api.Type{Form: api.Pointer, Name: p.target()}
	}
	e := p.known()
	p.check(e.kind == ofType, pos, api.ErrName)
	p.nameable(pos, e.t)
	return e.t
}

// length takes how many elements an array has.
func (p *parser) length() int {
	pos := p.pos()
	e := p.expr()
	p.check(isNumber(e) && e.I >= 1 && e.I <= api.MaxLen, pos, api.ErrType)
	return int(e.I)
}

// isNumber tells whether an expression is an INTEGER that is known.
func isNumber(e api.Expr) bool { return e.Op == api.Lit && e.T.Form == api.Int }

// nested tells how many types are in one another.
func nested(t api.Type) int {
	n := 1
	for t.Form == api.Array && len(t.Of) > 0 {
		t = t.Of[0]
		n++
	}
	return n
}

// target takes the record that a pointer points to.
func (p *parser) target() string {
	pos := p.pos()
	name, e, there := p.qual()
	if !there && p.inTypes && p.isOwn(name) {
		// Whether it is there is asked when the section ends.
		p.pointed = append(p.pointed, forward{pos: pos, name: name})
		p.visible[p.own+name] = 1
		return p.own + name
	}
	p.check(there && e.kind == ofType, pos, api.ErrName)
	p.check(e.t.Form == api.Record, pos, api.ErrType)
	p.nameable(pos, e.t)
	return e.t.Name
}

// words tells a type's words.
func (p *parser) words(pos int, t api.Type) int {
	n, ok := types.Words(t, p.recs)
	p.check(ok, pos, api.ErrLimit)
	return n
}

// variables takes the module's section of variables.
func (p *parser) variables() {
	sum := 0
	for p.isIdent() {
		l := []mark{p.idef()}
		for p.take(",") {
			l = append(l, p.idef())
		}
		p.need(":")
		pos := p.pos()
		t := p.typ()
		sum += len(l) * p.words(pos, t)
		p.check(sum <= api.MaxWords, pos, api.ErrLimit)
		p.need(";")
		for _, d := range l {
			p.declare(d.pos, d.name, entry{kind: ofVar, t: t, s: p.own + d.name})
			p.m.Vars = append(p.m.Vars, api.Var{Name: d.name, Export: d.export, T: t})
		}
	}
}

// fieldsOf tells a record's fields.
func (p *parser) fieldsOf(record string) []api.Var {
	l, asked := p.fields[record]
	if !asked {
		l, _ = types.Fields(record, p.recs)
		p.fields[record] = l
	}
	return l
}
