package front

import (
	"strings"

	"wafer/api"
	"wafer/fold"
	"wafer/types"
)

// Kinds of what a name may stand for.
const (
	ofConst = iota
	ofType
	ofVar
	ofProc
	ofModule
	ofFunction  // a standard function
	ofStatement // a standard procedure
)

// entry is what a name stands for.
type entry struct {
	kind   int
	e      api.Expr    // of a constant
	t      api.Type    // of a type, of a variable; a procedure's result
	s      string      // a variable's, a procedure's name in the tree
	ref    bool        // of a parameter: with VAR
	params []api.Param // a procedure's
	op     int         // of a standard one: the kind of its expression or statement
}

// The modules of text, which no tree is needed for.
const (
	input  = "In"
	output = "Out"
)

// isText tells whether a module is one of these.
func isText(name string) bool { return name == input || name == output }

// lengthOf stands for LEN, which has no kind of expression of its own.
const lengthOf = -1

// standard tells the names that are taken everywhere.
func standard() map[string]entry {
	return map[string]entry{
		"INTEGER": {kind: ofType, t: types.Basic(api.Int)},
		"CHAR":    {kind: ofType, t: types.Basic(api.Char)},
		"BOOLEAN": {kind: ofType, t: types.Basic(api.Bool)},
		"SET":     {kind: ofType, t: types.Basic(api.Set)},
		"ABS":     {kind: ofFunction, op: api.Abs},
		"ODD":     {kind: ofFunction, op: api.Odd},
		"LSL":     {kind: ofFunction, op: api.Lsl},
		"ASR":     {kind: ofFunction, op: api.Asr},
		"ROR":     {kind: ofFunction, op: api.Ror},
		"ORD":     {kind: ofFunction, op: api.Ord},
		"CHR":     {kind: ofFunction, op: api.Chr},
		"LEN":     {kind: ofFunction, op: lengthOf},
		"INC":     {kind: ofStatement, op: api.Inc},
		"DEC":     {kind: ofStatement, op: api.Dec},
		"INCL":    {kind: ofStatement, op: api.Incl},
		"EXCL":    {kind: ofStatement, op: api.Excl},
		"NEW":     {kind: ofStatement, op: api.New},
		"ASSERT":  {kind: ofStatement, op: api.Assert},
	}
}

// isTaken tells whether a name is one of these.
func isTaken(name string) bool {
	_, taken := standard()[name]
	return taken
}

// meet looks at the modules that src's own may import, and at all of their records.
func (p *parser) meet(mods []api.Module) {
	p.mods = map[string]api.Module{}
	for _, m := range mods {
		if _, met := p.mods[m.Name]; met || m.Name == p.m.Name {
			continue
		}
		p.mods[m.Name] = m
		for _, r := range m.Recs {
			keepFirst(p.recs, m.Name+"."+r.Name, r)
		}
	}
}

// keepFirst stores v, unless there is something of that name.
func keepFirst[T any](l map[string]T, name string, v T) {
	if _, there := l[name]; !there {
		l[name] = v
	}
}

// imports takes the list of imports.
func (p *parser) imports() {
	if !p.take("IMPORT") {
		return
	}
	for {
		p.importOne()
		if !p.take(",") {
			break
		}
	}
	p.need(";")
}

// importOne takes an import, and what it exports.
func (p *parser) importOne() {
	pos := p.pos()
	name := p.ident()
	m, there := p.mods[name]
	p.check(there || isText(name), pos, api.ErrImport)
	p.declare(pos, name, entry{kind: ofModule})
	p.m.Imports = append(p.m.Imports, name)
	switch name {
	case input:
		p.names["In.Eof"] = entry{kind: ofFunction, op: api.Eof}
		p.names["In.Char"] = entry{kind: ofStatement, op: api.Read}
	case output:
		p.names["Out.Int"] = entry{kind: ofStatement, op: api.PutInt}
		p.names["Out.Char"] = entry{kind: ofStatement, op: api.PutChar}
		p.names["Out.String"] = entry{kind: ofStatement, op: api.PutStr}
		p.names["Out.Ln"] = entry{kind: ofStatement, op: api.PutLn}
	default:
		p.exports(m)
	}
}

// exports declares what a module exports, with its name and a dot.
func (p *parser) exports(m api.Module) {
	export := func(name string, is bool, e entry) {
		if is {
			keepFirst(p.names, m.Name+"."+name, e)
		}
	}
	for _, c := range m.Consts {
		export(c.Name, c.Export && isConstant(c.E), entry{kind: ofConst, e: c.E})
	}
	for _, n := range m.Names {
		export(n.Name, n.Export, entry{kind: ofType, t: n.T})
	}
	for _, r := range m.Recs {
		full := m.Name + "." + r.Name
		export(r.Name, r.Export, entry{kind: ofType, t: api.Type{Form: api.Record, Name: full}})
		if r.Export {
			p.visible[full] = 1
		}
	}
	for _, v := range m.Vars {
		export(v.Name, v.Export, entry{kind: ofVar, t: v.T, s: m.Name + "." + v.Name})
	}
	for _, q := range m.Procs {
		export(q.Name, q.Export, entry{kind: ofProc, t: q.Result, s: m.Name + "." + q.Name, params: q.Params})
	}
}

// isConstant tells whether an expression may be declared as a constant.
func isConstant(e api.Expr) bool { return fold.Is(e) || isString(e) }

// isString tells whether an expression is a string.
func isString(e api.Expr) bool { return e.Op == api.Lit && e.T.Form == api.Str }

// declare makes a name stand for something in the module.
func (p *parser) declare(pos int, name string, e entry) {
	_, taken := p.names[name]
	p.check(!taken, pos, api.ErrName)
	p.names[name] = e
}

// declareLocal makes a name stand for a parameter or a variable of the procedure.
func (p *parser) declareLocal(pos int, name string, t api.Type, ref bool) {
	_, taken := p.find(name)
	p.check(!taken, pos, api.ErrName)
	p.locals[name] = entry{kind: ofVar, t: t, s: name, ref: ref}
}

// find tells what a name stands for here.
func (p *parser) find(name string) (entry, bool) {
	if e, there := p.locals[name]; there {
		return e, true
	}
	e, there := p.names[name]
	return e, there
}

// qual takes a name, or a module's, a dot and a name, and tells what it stands for, if it is there.
func (p *parser) qual() (name string, e entry, there bool) {
	name = p.ident()
	e, there = p.find(name)
	if there && e.kind == ofModule {
		p.need(".")
		name += "." + p.ident()
		e, there = p.names[name]
	}
	return name, e, there
}

// known takes such a name that is there.
func (p *parser) known() entry {
	pos := p.pos()
	_, e, there := p.qual()
	p.check(there, pos, api.ErrName)
	return e
}

// isOwn tells whether a name of the tree is the module's own (one of a procedure is, too).
func (p *parser) isOwn(name string) bool {
	return strings.HasPrefix(name, p.own) || !strings.Contains(name, ".")
}
