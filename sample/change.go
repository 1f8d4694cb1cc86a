package sample

import (
	"wafer/api"
	"wafer/tree"
	"wafer/types"
)

// Change tells a module that is like m, but for some expressions and statements: another one for each number. It needn't be right.
func Change(m api.Module, number int) api.Module {
	k := &maker{seed: uint64(number)*40503 + 7}
	c := tree.Clone(m)
	for range 1 + k.pick(6) {
		// What was there before is taken whole, so that nothing stands in itself.
		old := tree.Clone(c)
		c = tree.Clone(c)
		k.change(finds(&old), finds(&c))
		c = tree.Clone(c)
	}
	return c
}

// found is where a module's expressions and statements stand.
type found struct {
	exprs []*api.Expr
	stmts []*api.Stmt
}

// finds tells where they stand.
func finds(m *api.Module) *found {
	f := &found{}
	for i := range m.Procs {
		f.body(m.Procs[i].Body)
		f.list(m.Procs[i].Ret)
	}
	f.body(m.Body)
	return f
}

func (f *found) body(l []api.Stmt) {
	for i := range l {
		f.stmts = append(f.stmts, &l[i])
		f.list(l[i].X)
		for _, b := range l[i].B {
			f.body(b)
		}
	}
}

func (f *found) list(l []api.Expr) {
	for i := range l {
		f.exprs = append(f.exprs, &l[i])
		f.list(l[i].X)
	}
}

// change changes one thing.
func (m *maker) change(from, to *found) {
	if len(to.exprs) == 0 || len(to.stmts) == 0 {
		return
	}
	e := to.exprs[m.pick(len(to.exprs))]
	s := to.stmts[m.pick(len(to.stmts))]
	switch m.pick(10) {
	case 0, 1, 2, 3:
		for range 50 {
			other := from.exprs[m.pick(len(from.exprs))]
			if types.Same(other.T, e.T) && e.T.Form != api.NoType {
				*e = *other
				return
			}
		}
	case 4, 5:
		m.literally(to)
	case 6:
		m.another(e)
	case 7:
		*s = *from.stmts[m.pick(len(from.stmts))]
	case 8:
		m.otherStmt(s)
	case 9:
		if len(s.I) == 1 {
			s.I[0] = m.edge()
		} else if len(s.I) > 0 {
			i := m.pick(len(s.I))
			s.I[i] = []int32{0, 1, s.I[i] + 1, s.I[i] - 1, m.edge()}[m.pick(5)]
		}
	}
}

// edge tells a number that is near a limit.
func (m *maker) edge() int32 {
	switch m.pick(9) {
	case 0:
		return -1 << 31
	case 1:
		return 1<<31 - 1
	case 2:
		return 65535 + int32(m.pick(3))
	case 3:
		return -65536 - int32(m.pick(3)) + 1
	case 4:
		return 255 + int32(m.pick(2))
	case 5:
		return 31 + int32(m.pick(2))
	}
	return int32(m.pick(5)) - 2
}

// literally changes a number, or puts one in the place of an expression of INTEGER.
func (m *maker) literally(to *found) {
	for range 50 {
		e := to.exprs[m.pick(len(to.exprs))]
		if e.T.Form == api.Int {
			*e = api.Expr{T: types.Basic(api.Int), I: m.edge()}
			return
		}
		if e.T.Form == api.Set {
			*e = api.Expr{T: types.Basic(api.Set), I: m.edge()}
			return
		}
	}
}

// another changes an operator.
func (m *maker) another(e *api.Expr) {
	switch {
	case e.Op >= api.Add && e.Op <= api.Mod:
		e.Op = api.Add + m.pick(5)
	case e.Op >= api.Eq && e.Op <= api.Ge:
		e.Op = api.Eq + m.pick(6)
	case e.Op >= api.Lsl && e.Op <= api.Ror:
		e.Op = api.Lsl + m.pick(3)
	case e.Op == api.Or || e.Op == api.And:
		e.Op = api.Or + m.pick(2)
	}
}

// otherStmt changes a statement's kind, or what is in it.
func (m *maker) otherStmt(s *api.Stmt) {
	switch s.Op {
	case api.Inc, api.Dec:
		s.Op = api.Inc + m.pick(2)
	case api.Incl, api.Excl:
		s.Op = api.Incl + m.pick(2)
	case api.If, api.While:
		s.Op = api.If + m.pick(2)
	case api.PutInt:
		s.Op = api.PutChar
		s.X = []api.Expr{{Op: api.Chr, T: types.Basic(api.Char), X: s.X}}
	default:
		for i := range s.B {
			s.B[i] = nil
		}
	}
}
