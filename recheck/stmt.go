package recheck

import (
	"wafer/api"
	"wafer/types"
)

// stmts looks at statements.
func (c *checker) stmts(l []api.Stmt) api.Errno { return each(l, c.stmt) }

// stmt looks at a statement and all that is in it.
func (c *checker) stmt(s api.Stmt) api.Errno {
	look := c.expr
	if s.Op == api.Do {
		look = c.done
	}
	if err := each(s.X, look); err != api.OK {
		return err
	}
	if isOfText(s.Op) && c.imports[textOf(s.Op)] == 0 {
		return api.ErrName
	}
	if !c.isStmt(s) {
		return api.ErrType
	}
	return each(s.B, c.stmts)
}

// isOfText tells whether a statement is one of In's or Out's.
func isOfText(op int) bool { return op >= api.Read && op <= api.PutLn }

// textOf tells which of these two.
func textOf(op int) string {
	if op == api.Read {
		return input
	}
	return output
}

// done looks at what a Do calls.
func (c *checker) done(e api.Expr) api.Errno {
	if e.Op != api.Call || e.I != 0 || !isSame(e.T, api.Type{}) {
		return api.ErrType
	}
	if err := each(e.X, c.expr); err != api.OK {
		return err
	}
	if err := c.call(e); err != api.OK {
		return err
	}
	return unless(c.procs[e.S].Result.Form == api.NoType, api.ErrType)
}

// isStmt tells whether a statement is made of what its kind needs; its expressions are right.
func (c *checker) isStmt(s api.Stmt) bool {
	switch s.Op {
	case api.If:
		return len(s.I) == 0 && areConditions(s.X) && (len(s.B) == len(s.X) || len(s.B) == len(s.X)+1)
	case api.While:
		return len(s.I) == 0 && areConditions(s.X) && len(s.B) == len(s.X)
	case api.Repeat:
		return len(s.I) == 0 && haveForms(s.X, api.Bool) && len(s.B) == 1
	case api.For:
		return c.isLoop(s)
	case api.Case:
		return isCase(s)
	}
	return len(s.B) == 0 && len(s.I) == 0 && c.isSimple(s.Op, s.X)
}

// areConditions tells whether there is one, and all are of BOOLEAN.
func areConditions(l []api.Expr) bool {
	for _, x := range l {
		if x.T.Form != api.Bool {
			return false
		}
	}
	return len(l) > 0
}

// isSimple tells whether a statement without others in it is made of these.
func (c *checker) isSimple(op int, x []api.Expr) bool {
	switch op {
	case api.Assign:
		return len(x) == 2 && c.mayBeAssigned(x[0]) && (types.Fits(x[0].T, x[1].T, c.recs) || isRoomFor(x[0].T, x[1]))
	case api.Do:
		return len(x) == 1
	case api.Inc, api.Dec:
		return haveForms(x, api.Int, api.Int) && c.mayBeAssigned(x[0])
	case api.Incl, api.Excl:
		return haveForms(x, api.Set, api.Int) && c.mayBeAssigned(x[0])
	case api.New:
		return haveForms(x, api.Pointer) && c.mayBeAssigned(x[0])
	case api.Read:
		return haveForms(x, api.Char) && c.mayBeAssigned(x[0])
	case api.Assert:
		return haveForms(x, api.Bool)
	case api.PutInt:
		return haveForms(x, api.Int)
	case api.PutChar:
		return haveForms(x, api.Char)
	case api.PutStr:
		return haveForms(x, api.Str) || len(x) == 1 && isChars(x[0].T) && isDesignator(x[0])
	case api.PutLn:
		return len(x) == 0
	}
	return false
}

// isChars tells whether a type is an array of CHAR.
func isChars(t api.Type) bool {
	return t.Form == api.Array && len(t.Of) == 1 && t.Of[0].Form == api.Char
}

// isRoomFor tells whether an expression is a string that an array of CHAR has room for.
func isRoomFor(to api.Type, e api.Expr) bool {
	return isChars(to) && isString(e) && len(e.S) < to.N
}

// isLoop tells whether a For counts by a variable that a source may name there.
func (c *checker) isLoop(s api.Stmt) bool {
	if !haveForms(s.X, api.Int, api.Int, api.Int) || len(s.B) != 1 || len(s.I) != 1 || s.I[0] == 0 {
		return false
	}
	return s.X[0].Op == api.Name && c.mayBeAssigned(s.X[0]) && !c.locals[s.X[0].S].ref
}

// isCase tells whether a Case's ranges are in order, and meet nowhere.
func isCase(s api.Stmt) bool {
	if !haveForms(s.X, api.Int) && !haveForms(s.X, api.Char) || len(s.I)%3 != 0 {
		return false
	}
	isChar := s.X[0].T.Form == api.Char
	bodies := 0 // that were met
	for i := 0; i < len(s.I); i += 3 {
		from, to, which := s.I[i], s.I[i+1], int(s.I[i+2])
		if from > to || isChar && (from < 0 || to > maxChar) || meets(s.I[:i], from, to) {
			return false
		}
		if which != bodies && (bodies == 0 || which != bodies-1) {
			return false
		}
		bodies = which + 1
	}
	return bodies == len(s.B)
}

// meets tells whether one of the ranges in l, three by three, has something of from to to.
func meets(l []int32, from, to int32) bool {
	for i := 0; i < len(l); i += 3 {
		if from <= l[i+1] && to >= l[i] {
			return true
		}
	}
	return false
}
