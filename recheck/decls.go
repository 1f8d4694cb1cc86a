package recheck

import (
	"wafer/api"
	"wafer/fold"
	"wafer/tree"
	"wafer/types"
)

// Bounds of a string's bytes.
const (
	minByte = ' '
	quote   = '"'
	maxChar = 255
)

// types looks at the types that m declares.
func (c *checker) types() api.Errno {
	if err := each(c.m.Recs, c.record); err != api.OK {
		return err
	}
	return each(c.m.Names, func(v api.Var) api.Errno { return c.typ(v.T) })
}

// declared looks at m's constants, variables and procedures' headings.
func (c *checker) declared() api.Errno {
	if err := each(c.m.Consts, constant); err != api.OK {
		return err
	}
	sum, err := c.words(c.m.Vars)
	if err != api.OK {
		return err
	}
	if sum > api.MaxWords {
		return api.ErrType
	}
	return each(c.m.Procs, c.heading)
}

// typ looks at a type that something is declared to be of.
func (c *checker) typ(t api.Type) api.Errno {
	if !types.Right(t) {
		return api.ErrType
	}
	in := t
	for in.Form == api.Array {
		in = in.Of[0]
	}
	if (in.Form == api.Record || in.Form == api.Pointer) && c.named[in.Name] == 0 {
		return api.ErrName
	}
	return unless(c.size(t).ok, api.ErrType)
}

// size tells how many words a type has; all that a record has in it is gone through but once.
func (c *checker) size(t api.Type) size {
	text := types.Text(t)
	s, asked := c.sizes[text]
	if !asked {
		s.words, s.ok = types.Words(t, c.recs)
		c.sizes[text] = s
	}
	return s
}

// record looks at a record's base and fields, and at those of its base.
func (c *checker) record(r api.Rec) api.Errno {
	if r.Base != "" && c.named[r.Base] == 0 {
		return api.ErrName
	}
	err := each(r.Fields, func(f api.Var) api.Errno {
		if !Ident(f.Name) {
			return api.ErrName
		}
		return c.typ(f.T)
	})
	if err != api.OK {
		return err
	}
	name := c.own + r.Name
	if !c.size(api.Type{Form: api.Record, Name: name}).ok {
		return api.ErrType
	}
	l, ok := types.Fields(name, c.recs)
	return unless(ok && len(places(l)) == len(l), api.ErrName)
}

// places tells where in a list each of its names stands.
func places(l []api.Var) map[string]int {
	at := map[string]int{}
	for i, f := range l {
		at[f.Name] = i
	}
	return at
}

// field tells the type of a record's field, if it has one of that name.
func (c *checker) field(record, name string) (api.Type, bool) {
	at, asked := c.fields[record]
	if !asked {
		l, _ := types.Fields(record, c.recs)
		at = places(l)
		c.fields[record], c.lists[record] = at, l
	}
	i, there := at[name]
	if !there {
		return api.Type{}, false
	}
	return c.lists[record][i].T, true
}

// constant looks at a constant.
func constant(k api.Const) api.Errno {
	return unless((fold.Is(k.E) || isString(k.E)) && isLit(k.E), api.ErrType)
}

// isString tells whether an expression is a string.
func isString(e api.Expr) bool { return e.Op == api.Lit && e.T.Form == api.Str }

// isLit tells whether a Lit is one that a source may have.
func isLit(e api.Expr) bool {
	if len(e.X) > 0 || !isSame(e.T, types.Basic(e.T.Form)) || e.S != "" && e.T.Form != api.Str {
		return false
	}
	switch e.T.Form {
	case api.Int, api.Set:
		return true
	case api.Char:
		return e.I >= 0 && e.I <= maxChar
	case api.Bool:
		return e.I == 0 || e.I == 1
	case api.Nil:
		return e.I == 0
	case api.Str:
		return e.I == 0 && isText(e.S)
	}
	return false
}

// isText tells whether a string may stand between quotes.
func isText(s string) bool {
	for i := range len(s) {
		if s[i] < minByte || s[i] == quote {
			return false
		}
	}
	return len(s) <= api.MaxStr
}

// isSame tells whether two types are alike in all of their fields.
func isSame(a, b api.Type) bool { return tree.SameExpr(api.Expr{T: a}, api.Expr{T: b}) }

// words tells the words of variables, which it looks at.
func (c *checker) words(l []api.Var) (int, api.Errno) {
	sum := 0
	for _, v := range l {
		if err := c.typ(v.T); err != api.OK {
			return 0, err
		}
		sum += c.size(v.T).words
	}
	return sum, api.OK
}

// heading looks at a procedure's parameters, variables and result.
func (c *checker) heading(q api.Proc) api.Errno {
	used := map[string]int{}
	for _, name := range localNames(q) {
		if !Ident(name) || used[name] != 0 || c.imports[name] != 0 {
			return api.ErrName
		}
		used[name] = 1
	}
	if err := each(q.Params, c.param); err != api.OK {
		return err
	}
	if err := c.result(q.Result); err != api.OK {
		return err
	}
	sum, err := c.words(q.Locals)
	if err != api.OK {
		return err
	}
	return unless(len(q.Params)+sum <= api.MaxFrame, api.ErrType)
}

// localNames tells the names that a procedure declares.
func localNames(q api.Proc) []string {
	var l []string
	for _, one := range q.Params {
		l = append(l, one.Name)
	}
	for _, one := range q.Locals {
		l = append(l, one.Name)
	}
	return l
}

// param looks at a parameter's type.
func (c *checker) param(p api.Param) api.Errno {
	if !p.Ref && !isValue(p.T) {
		return api.ErrType
	}
	return c.typ(p.T)
}

// result looks at a result's type.
func (c *checker) result(t api.Type) api.Errno {
	if t.Form == api.NoType {
		return unless(isSame(t, api.Type{}), api.ErrType)
	}
	if !isValue(t) {
		return api.ErrType
	}
	return c.typ(t)
}

// isValue tells whether what is of a type may be handed over as a value.
func isValue(t api.Type) bool {
	switch t.Form {
	case api.Int, api.Char, api.Bool, api.Set, api.Pointer:
		return true
	}
	return false
}

// bodies looks at what procedures and the module do.
func (c *checker) bodies() api.Errno {
	if err := each(c.m.Procs, c.body); err != api.OK {
		return err
	}
	c.locals = nil
	return c.stmts(c.m.Body)
}

// body looks at what a procedure does and returns.
func (c *checker) body(q api.Proc) api.Errno {
	c.locals = map[string]local{}
	for _, p := range q.Params {
		c.locals[p.Name] = local{t: p.T, ref: p.Ref}
	}
	for _, v := range q.Locals {
		c.locals[v.Name] = local{t: v.T}
	}
	if err := c.stmts(q.Body); err != api.OK {
		return err
	}
	if q.Result.Form == api.NoType {
		return unless(len(q.Ret) == 0, api.ErrType)
	}
	if err := each(q.Ret, c.expr); err != api.OK {
		return err
	}
	return unless(len(q.Ret) == 1 && types.Fits(q.Result, q.Ret[0].T, c.recs), api.ErrType)
}
