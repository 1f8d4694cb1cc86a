package tree

import "wafer/api"

// Bounds of what is small.
const (
	maxName  = 2*api.MaxIdent + 1
	maxTypes = 8 // in one another
)

// Small tells whether m's lists, strings, names and nestings keep their limits.
func Small(m api.Module) bool {
	return isName(m.Name) &&
		all(m.Imports, isName) &&
		all(m.Consts, smallConst) &&
		all(m.Names, smallVar) &&
		all(m.Recs, smallRec) &&
		all(m.Vars, smallVar) &&
		all(m.Procs, smallProc) &&
		smallBody(m.Body)
}

// all tells whether a list isn't too long, and all in it are so.
func all[T any](l []T, is func(T) bool) bool {
	if len(l) > api.MaxList {
		return false
	}
	for _, one := range l {
		if !is(one) {
			return false
		}
	}
	return true
}

func isName(s string) bool { return len(s) <= maxName }

func smallType(t api.Type) bool { return shallow(t, maxTypes) }

// shallow tells whether types are at most so many in one another, and small else.
func shallow(t api.Type, most int) bool {
	return most > 0 && isName(t.Name) && all(t.Of, func(e api.Type) bool { return shallow(e, most-1) })
}

func smallVar(v api.Var) bool { return isName(v.Name) && smallType(v.T) }

func smallConst(c api.Const) bool { return isName(c.Name) && smallTop(c.E) }

func smallRec(r api.Rec) bool {
	return isName(r.Name) && isName(r.Base) && all(r.Fields, smallVar)
}

func smallParam(p api.Param) bool { return isName(p.Name) && smallType(p.T) }

func smallProc(p api.Proc) bool {
	return isName(p.Name) && smallType(p.Result) && all(p.Params, smallParam) && all(p.Locals, smallVar) &&
		smallBody(p.Body) && all(p.Ret, smallTop)
}

// smallTop looks at an expression that is in no other one.
func smallTop(e api.Expr) bool { return Depth(e) <= api.MaxNest && smallExpr(e) }

func smallExpr(e api.Expr) bool {
	return len(e.S) <= api.MaxStr && smallType(e.T) && all(e.X, smallExpr)
}

// smallBody looks at a procedure's or a module's statements.
func smallBody(l []api.Stmt) bool { return Nest(l) <= api.MaxNest && all(l, smallStmt) }

func smallStmt(s api.Stmt) bool {
	return all(s.X, smallTop) && all(s.B, smallInner) && all(s.I, anyNumber)
}

// smallInner looks at statements that are in others, whose nesting is looked at already.
func smallInner(l []api.Stmt) bool { return all(l, smallStmt) }

func anyNumber(int32) bool { return true }
