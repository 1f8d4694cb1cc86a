package slim

import (
	"strings"

	"wafer/api"
	"wafer/varint"
)

// maxTypes is how many types may be in one another.
const maxTypes = 8

// module writes or reads a module.
func (c *codec) module(m api.Module) api.Module {
	return api.Module{
		Name:    c.text(m.Name),
		Imports: list(c, m.Imports, c.text),
		Consts:  list(c, m.Consts, c.constant),
		Names:   list(c, m.Names, c.variable),
		Recs:    list(c, m.Recs, c.record),
		Vars:    list(c, m.Vars, c.variable),
		Procs:   list(c, m.Procs, c.procedure),
		Body:    c.body(1)(m.Body),
	}
}

// text writes or reads a text; what is on either side of its first dot is told for itself, since modules' names come again and again.
func (c *codec) text(s string) string {
	ahead, behind, dotted := strings.Cut(s, ".")
	if !c.flag(dotted) {
		return c.entry(&c.names, s)
	}
	ahead = c.entry(&c.names, ahead)
	return ahead + "." + c.entry(&c.names, behind)
}

func (c *codec) constant(k api.Const) api.Const {
	return api.Const{Name: c.text(k.Name), Export: c.flag(k.Export), E: c.expr(1)(k.E)}
}

func (c *codec) variable(v api.Var) api.Var {
	return api.Var{Name: c.text(v.Name), Export: c.flag(v.Export), T: c.typ(v.T)}
}

func (c *codec) record(r api.Rec) api.Rec {
	return api.Rec{Name: c.text(r.Name), Export: c.flag(r.Export), Base: c.text(r.Base), Fields: list(c, r.Fields, c.variable)}
}

func (c *codec) param(p api.Param) api.Param {
	return api.Param{Name: c.text(p.Name), Ref: c.flag(p.Ref), T: c.typ(p.T)}
}

func (c *codec) procedure(q api.Proc) api.Proc {
	return api.Proc{
		Name:   c.text(q.Name),
		Export: c.flag(q.Export),
		Params: list(c, q.Params, c.param),
		Result: c.typ(q.Result),
		Locals: list(c, q.Locals, c.variable),
		Body:   c.body(1)(q.Body),
		Ret:    list(c, q.Ret, c.expr(1)),
	}
}

// body tells what writes or reads statements that are so deep in one another.
func (c *codec) body(depth int) func([]api.Stmt) []api.Stmt {
	return func(l []api.Stmt) []api.Stmt {
		return list(c, l, func(s api.Stmt) api.Stmt { return c.stmt(s, depth) })
	}
}

func (c *codec) stmt(s api.Stmt, depth int) api.Stmt {
	check(depth <= api.MaxNest)
	return api.Stmt{
		Op: c.small(s.Op, stmtBits),
		X:  list(c, s.X, c.expr(1)),
		B:  list(c, s.B, c.body(depth+1)),
		I:  list(c, s.I, c.signed),
	}
}

// expr tells what writes or reads an expression that is so deep in others.
func (c *codec) expr(depth int) func(api.Expr) api.Expr {
	return func(e api.Expr) api.Expr {
		check(depth <= api.MaxNest)
		read := api.Expr{Op: c.small(e.Op, opBits), T: c.typ(e.T), I: c.signed(e.I)}
		if c.flag(e.S != "") {
			read.S = c.text(e.S)
		}
		read.X = list(c, e.X, c.expr(depth+1))
		return read
	}
}

// typ writes or reads a type, as bytes that come again and again.
func (c *codec) typ(t api.Type) api.Type {
	if c.r == nil {
		c.entry(&c.types, string(putType(nil, t)))
		return t
	}
	rest := []byte(c.entry(&c.types, ""))
	t = readType(&rest, maxTypes)
	check(len(rest) == 0)
	return t
}

// putType tells b and a type behind it.
func putType(b []byte, t api.Type) []byte {
	b = putNumber(b, t.Form)
	b = putNumber(b, t.N)
	b = putNumber(b, len(t.Name))
	b = append(b, t.Name...)
	b = putNumber(b, len(t.Of))
	for _, e := range t.Of {
		b = putType(b, e)
	}
	return b
}

// putNumber tells b and a number of 31 bits behind it.
func putNumber(b []byte, v int) []byte {
	check(v >= 0 && v <= maxNumber)
	return append(b, varint.Put(nil, uint64(v))...)
}

// maxNumber is the greatest number in a type.
const maxNumber = 1<<31 - 1

// readType takes the type that bytes begin with.
func readType(b *[]byte, most int) api.Type {
	check(most > 0)
	t := api.Type{Form: readNumber(b), N: readNumber(b)}
	n := readNumber(b)
	check(n <= len(*b))
	t.Name = string((*b)[:n])
	*b = (*b)[n:]
	n = readNumber(b)
	check(n <= api.MaxList)
	for range n {
		t.Of = append(t.Of, readType(b, most-1))
	}
	return t
}

// readNumber takes the number that bytes begin with.
func readNumber(b *[]byte) int {
	v, n, ok := varint.Read(*b)
	check(ok && v <= maxNumber)
	*b = (*b)[n:]
	return int(v)
}
