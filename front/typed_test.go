package front

import (
	"strings"
	"testing"

	"wafer/api"
	"wafer/recheck"
	"wafer/types"
)

// reader looks at a tree as a plain reading of chapter 17 has it: whatever is told of it twice must agree.
type reader struct {
	t     *testing.T
	m     api.Module
	recs  map[string]api.Rec
	vars  map[string]api.Type
	procs map[string]api.Proc
	local map[string]api.Param
	names map[string]int // records that the module may name
}

// typed checks P16.9 and P40.1 of a tree.
func typed(t *testing.T, m api.Module, known []api.Module) {
	t.Helper()
	if err := recheck.Check(m, known...); err != api.OK {
		t.Fatalf("%v: no right tree: %+v", err, m)
	}
	r := &reader{t: t, m: m, recs: map[string]api.Rec{}, vars: map[string]api.Type{}, procs: map[string]api.Proc{}, names: map[string]int{}}
	for _, k := range append([]api.Module{m}, known...) {
		own := k.Name == m.Name
		imported := own
		for _, i := range m.Imports {
			imported = imported || i == k.Name
		}
		for _, q := range k.Recs {
			r.recs[k.Name+"."+q.Name] = q
			if own || imported && q.Export {
				r.names[k.Name+"."+q.Name] = 1
			}
		}
		for _, v := range k.Vars {
			if own || imported && v.Export {
				r.vars[k.Name+"."+v.Name] = v.T
			}
		}
		for _, q := range k.Procs {
			if own || imported && q.Export {
				r.procs[k.Name+"."+q.Name] = q
			}
		}
	}
	r.declared()
	for _, q := range m.Procs {
		r.proc(q)
	}
	r.local = nil
	r.body(m.Body)
}

// must fails, unless something is so.
func (r *reader) must(is bool, what string, of any) {
	r.t.Helper()
	if !is {
		r.t.Fatalf("%s: %+v", what, of)
	}
}

// typ looks at a declared type.
func (r *reader) typ(t api.Type) int {
	n, ok := types.Words(t, r.recs)
	r.must(ok && types.Right(t), "type", t)
	for t.Form == api.Array {
		t = t.Of[0]
	}
	r.must(t.Name == "" || r.names[t.Name] == 1, "may not be named", t)
	return n
}

func (r *reader) declared() {
	sum := 0
	for _, c := range r.m.Consts {
		r.must(c.E.Op == api.Lit && c.E.T.Form >= api.Int && c.E.T.Form <= api.Str && c.E.T.Form != api.Nil, "constant", c)
	}
	for _, n := range r.m.Names {
		r.typ(n.T)
	}
	for _, q := range r.m.Recs {
		r.must(q.Base == "" || r.names[q.Base] == 1, "base", q)
		r.typ(api.Type{Form: api.Record, Name: r.m.Name + "." + q.Name})
		l, ok := types.Fields(r.m.Name+"."+q.Name, r.recs)
		used := map[string]bool{}
		for _, f := range l {
			r.must(ok && !used[f.Name], "field", f)
			used[f.Name] = true
		}
		for _, f := range q.Fields {
			r.typ(f.T)
		}
	}
	for _, v := range r.m.Vars {
		sum += r.typ(v.T)
	}
	r.must(sum <= api.MaxWords, "words", sum)
}

func (r *reader) proc(q api.Proc) {
	r.local = map[string]api.Param{}
	sum := len(q.Params)
	isValue := func(t api.Type) bool { return t.Form >= api.Int && t.Form <= api.Set || t.Form == api.Pointer }
	for _, a := range q.Params {
		r.typ(a.T)
		r.must(a.Ref || isValue(a.T), "parameter", a)
		r.local[a.Name] = a
	}
	for _, v := range q.Locals {
		sum += r.typ(v.T)
		r.local[v.Name] = api.Param{T: v.T}
	}
	r.must(sum <= api.MaxFrame && len(r.local) == len(q.Params)+len(q.Locals), "frame", q)
	r.body(q.Body)
	if q.Result.Form == api.NoType {
		r.must(len(q.Ret) == 0, "result", q)
		return
	}
	r.typ(q.Result)
	r.must(isValue(q.Result) && len(q.Ret) == 1 && types.Fits(q.Result, r.expr(q.Ret[0]), r.recs), "result", q)
}

// want tells the type that an expression must have, by what it is made of.
func (r *reader) want(e api.Expr) api.Type {
	// Each part once: parts are deep in one another.
	var parts []api.Type
	for _, x := range e.X {
		parts = append(parts, r.expr(x))
	}
	form := func(i int) int { return parts[i].Form }
	desig := func() api.Type {
		r.must(len(e.X) > 0 && e.X[0].Op >= api.Name && e.X[0].Op <= api.Guard, "designator", e)
		return parts[0]
	}
	basic := func(to int, from ...int) api.Type {
		r.must(len(e.X) == len(from), "parts", e)
		for i, f := range from {
			r.must(form(i) == f, "part", e)
		}
		return types.Basic(to)
	}
	switch e.Op {
	case api.Lit:
		r.must(len(e.X) == 0 && (e.T.Form >= api.Int && e.T.Form <= api.Str), "constant", e)
		return types.Basic(e.T.Form)
	case api.Name:
		if p, ok := r.local[e.S]; ok {
			return p.T
		}
		t, ok := r.vars[e.S]
		r.must(ok, "name", e)
		return t
	case api.Index:
		a := desig()
		r.must(a.Form == api.Array && form(1) == api.Int && len(e.X) == 2, "index", e)
		r.must(e.X[1].Op != api.Lit || e.X[1].I >= 0 && int(e.X[1].I) < a.N, "index", e)
		return a.Of[0]
	case api.Field:
		a := desig()
		l, ok := types.Fields(a.Name, r.recs)
		for _, f := range l {
			if a.Form == api.Record && ok && f.Name == e.S {
				return f.T
			}
		}
		r.must(false, "field", e)
	case api.Deref:
		a := desig()
		r.must(a.Form == api.Pointer, "deref", e)
		return api.Type{Form: api.Record, Name: a.Name}
	case api.Guard, api.Is:
		a := parts[0]
		r.must(a.Form == api.Pointer && r.names[e.S] == 1 && types.Extends(e.S, a.Name, r.recs), "guard, is", e)
		if e.Op == api.Is {
			return types.Basic(api.Bool)
		}
		desig()
		return api.Type{Form: api.Pointer, Name: e.S}
	case api.Call:
		return r.call(e, parts)
	case api.Add, api.Sub, api.Mul, api.Div, api.Neg:
		f := form(0)
		r.must(f == api.Int || f == api.Set, "sum", e)
		if e.Op == api.Neg {
			return basic(f, f)
		}
		return basic(f, f, f)
	case api.Mod, api.Lsl, api.Asr, api.Ror:
		return basic(api.Int, api.Int, api.Int)
	case api.Or, api.And:
		return basic(api.Bool, api.Bool, api.Bool)
	case api.Not:
		return basic(api.Bool, api.Bool)
	case api.Eq, api.Ne, api.Lt, api.Le, api.Gt, api.Ge:
		return r.relation(e, parts)
	case api.In:
		return basic(api.Bool, api.Int, api.Set)
	case api.SetOf:
		for i, x := range e.X {
			r.must(x.Op == api.One || x.Op == api.Span, "element", e)
			r.must(form(i) == api.NoType, "element", e)
		}
		return types.Basic(api.Set)
	case api.One:
		return basic(api.NoType, api.Int)
	case api.Span:
		return basic(api.NoType, api.Int, api.Int)
	case api.Abs:
		return basic(api.Int, api.Int)
	case api.Odd:
		return basic(api.Bool, api.Int)
	case api.Chr:
		return basic(api.Char, api.Int)
	case api.Ord:
		f := form(0)
		r.must(f == api.Char || f == api.Bool || f == api.Set, "ord", e)
		return basic(api.Int, f)
	case api.Eof:
		return basic(api.Bool)
	}
	r.must(false, "kind", e)
	return api.Type{}
}

// relation looks at two that are held against each other.
func (r *reader) relation(e api.Expr, parts []api.Type) api.Type {
	a, b := parts[0], parts[1]
	ok := a.Form == b.Form && (a.Form == api.Int || a.Form == api.Char)
	if e.Op == api.Eq || e.Op == api.Ne {
		ok = a.Form == b.Form && a.Form >= api.Int && a.Form <= api.Nil || types.Fits(a, b, r.recs) && a.Form == api.Pointer || types.Fits(b, a, r.recs) && b.Form == api.Pointer
	}
	r.must(ok && len(e.X) == 2, "relation", e)
	return types.Basic(api.Bool)
}

// call looks at a call's arguments.
func (r *reader) call(e api.Expr, parts []api.Type) api.Type {
	q, ok := r.procs[e.S]
	r.must(ok && len(q.Params) == len(e.X), "call", e)
	for i, a := range q.Params {
		t := parts[i]
		r.must(!a.Ref && types.Fits(a.T, t, r.recs) || a.Ref && types.Same(a.T, t) && r.assignable(e.X[i]), "argument", e)
	}
	return q.Result
}

// assignable tells whether a designator may be assigned.
func (r *reader) assignable(e api.Expr) bool {
	switch e.Op {
	case api.Name:
		return !strings.Contains(e.S, ".") || strings.HasPrefix(e.S, r.m.Name+".")
	case api.Index, api.Field:
		return r.assignable(e.X[0])
	}
	return e.Op == api.Deref
}

// expr looks at an expression, and tells its type.
func (r *reader) expr(e api.Expr) api.Type {
	t := r.want(e)
	r.must(types.Same(t, e.T) && (types.Right(t) || t.Form < api.Array), "type of", e)
	r.must(e.I == 0 || e.Op == api.Lit, "a number", e)
	switch e.Op {
	case api.Name, api.Field, api.Guard, api.Call, api.Is:
		r.must(e.S != "", "no name", e)
	case api.Lit:
		r.must(e.S == "" || e.T.Form == api.Str && e.I == 0, "a text", e)
	default:
		r.must(e.S == "", "a name", e)
	}
	return t
}

func (r *reader) body(l []api.Stmt) {
	for _, s := range l {
		r.stmt(s)
		for _, b := range s.B {
			r.body(b)
		}
	}
}

// all checks that a statement has expressions of just these forms.
func (r *reader) all(s api.Stmt, forms ...int) {
	r.must(len(s.X) == len(forms), "expressions", s)
	for i, f := range forms {
		r.must(r.expr(s.X[i]).Form == f, "expression", s)
	}
}

func (r *reader) stmt(s api.Stmt) {
	parts, numbers := 0, 0
	first := func() { r.must(r.assignable(s.X[0]), "assigned", s) }
	switch s.Op {
	case api.Assign:
		to, from := r.expr(s.X[0]), r.expr(s.X[1])
		first()
		isText := to.Form == api.Array && to.Of[0].Form == api.Char && from.Form == api.Str && len(s.X[1].S) < to.N
		r.must(len(s.X) == 2 && (isText || types.Fits(to, from, r.recs)), "assign", s)
	case api.Do:
		r.all(s, api.NoType)
		r.must(s.X[0].Op == api.Call, "do", s)
	case api.If, api.While:
		for _, x := range s.X {
			r.must(r.expr(x).Form == api.Bool, "condition", s)
		}
		parts = len(s.X)
		if s.Op == api.If && len(s.B) > parts {
			parts++
		}
		r.must(len(s.X) > 0, "condition", s)
	case api.Repeat:
		r.all(s, api.Bool)
		parts = 1
	case api.For:
		r.all(s, api.Int, api.Int, api.Int)
		first()
		r.must(s.X[0].Op == api.Name && !r.local[s.X[0].S].Ref && s.I[0] != 0, "for", s)
		parts, numbers = 1, 1
	case api.Case:
		parts, numbers = len(s.B), len(s.I)
		r.cases(s)
	case api.Inc, api.Dec:
		r.all(s, api.Int, api.Int)
		first()
	case api.Incl, api.Excl:
		r.all(s, api.Set, api.Int)
		first()
	case api.New:
		r.all(s, api.Pointer)
		first()
	case api.Read:
		r.all(s, api.Char)
		first()
	case api.Assert:
		r.all(s, api.Bool)
	case api.PutInt:
		r.all(s, api.Int)
	case api.PutChar:
		r.all(s, api.Char)
	case api.PutStr:
		t := r.expr(s.X[0])
		r.must(len(s.X) == 1 && (t.Form == api.Str || t.Form == api.Array && t.Of[0].Form == api.Char), "string", s)
	case api.PutLn:
		r.all(s)
	default:
		r.must(false, "kind", s)
	}
	r.must(len(s.B) == parts && len(s.I) == numbers, "parts", s)
}

// cases looks at a CASE's ranges.
func (r *reader) cases(s api.Stmt) {
	f := r.expr(s.X[0]).Form
	r.must(len(s.X) == 1 && (f == api.Int || f == api.Char) && len(s.I)%3 == 0, "case", s)
	next := int32(0)
	for i := 0; i < len(s.I); i += 3 {
		from, to, which := s.I[i], s.I[i+1], s.I[i+2]
		r.must(from <= to && (f == api.Int || from >= 0 && to <= 255), "range", s)
		r.must(which == next || which == next-1 && i > 0, "which", s)
		next = which + 1
		for j := 0; j < i; j += 3 {
			r.must(to < s.I[j] || from > s.I[j+1], "ranges that meet", s)
		}
	}
	r.must(int(next) == len(s.B), "cases", s)
}
