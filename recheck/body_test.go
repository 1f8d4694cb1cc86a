package recheck

import (
	"testing"

	"wafer/api"
)

// P17.3: each expression, as it stands in ASSERT(e = e) or where its type may stand.
func TestExpressions(t *testing.T) {
	i, b, c, s := name("M.i", integer), name("M.b", boolean), name("M.c", char), name("M.s", set)
	up, p, vp, wp := name("M.up", ptr("M.U")), name("M.p", ptr("N.R")), name("M.vp", ptr("M.V")), name("M.wp", ptr("M.W"))
	v, w := name("M.v", rec("M.V")), name("M.w", rec("M.W"))
	rows := array(4, array(5, integer))
	table := name("M.t", rows)
	x := func(e api.Expr, n int32) api.Expr { e.I = n; return e }
	call := func(s string, t api.Type, x ...api.Expr) api.Expr { return of(api.Call, s, t, x...) }
	deref := func(e api.Expr) api.Expr { return op(api.Deref, rec(e.T.Name), e) }
	fun := call("M.fun", integer)
	for k, q := range []struct {
		e   api.Expr
		err api.Errno
	}{
		{i, api.OK}, {name("M.x", integer), api.ErrName}, {name("i", integer), api.ErrName}, {name("M.i", char), wrong}, {x(i, 1), wrong}, {of(api.Name, "M.i", integer, i), wrong}, {name("N.v", integer), api.OK}, {name("N.w", integer), api.ErrName}, {name("K.q", ptr("K.Q")), api.ErrName}, {name("M.three", integer), api.ErrName}, {name("", integer), api.ErrName}, {name("N.hp", ptr("N.H")), api.OK},
		{num(5), api.OK}, {null(), api.OK}, {x(null(), 1), wrong}, {lit(char, 256), wrong}, {lit(char, 255), api.OK}, {lit(boolean, 2), wrong}, {api.Expr{T: api.Type{Form: api.Nil}, S: "x"}, wrong}, {api.Expr{T: integer, S: "x"}, wrong},
		{op(api.Index, array(5, integer), table, i), wrong}, {op(api.Index, integer, op(api.Index, array(5, integer), table, i), num(4)), api.OK}, {op(api.Index, integer, op(api.Index, array(5, integer), table, num(0)), i), api.OK}, {op(api.Index, integer, op(api.Index, array(5, integer), table, num(3)), num(5)), wrong}, {op(api.Index, integer, op(api.Index, array(5, integer), table, num(4)), i), wrong}, {op(api.Index, integer, op(api.Index, array(5, integer), table, num(-1)), i), wrong}, {op(api.Index, integer, op(api.Index, array(5, integer), table, c), i), wrong}, {op(api.Index, integer, op(api.Index, array(4, integer), table, i), i), wrong}, {op(api.Index, char, op(api.Index, array(5, integer), table, i), i), wrong},
		{op(api.Index, integer, op(api.Index, array(5, integer), table), i), wrong}, {op(api.Index, integer, op(api.Index, array(5, integer), table, i), i, i), wrong}, {op(api.Index, integer), wrong}, {op(api.Index, integer, i, i), wrong}, {of(api.Index, "x", integer, op(api.Index, array(5, integer), table, i), i), wrong}, {op(api.Index, integer, op(api.Index, array(5, integer), table, op(api.Sub, integer, num(0), num(1))), i), api.OK},
		{of(api.Field, "x", integer, v), api.OK}, {of(api.Field, "x", integer, w), api.OK}, {of(api.Field, "y", integer, v), api.ErrName}, {of(api.Field, "x", char, v), wrong}, {of(api.Field, "x", integer, vp), wrong}, {of(api.Field, "x", integer, deref(vp)), api.OK}, {of(api.Field, "x", integer, deref(wp)), api.OK}, {of(api.Field, "x", integer), wrong}, {of(api.Field, "x", integer, v, v), wrong}, {of(api.Field, "M.x", integer, v), api.ErrName}, {of(api.Field, "a", integer, deref(name("N.p", ptr("N.R")))), api.OK}, {of(api.Field, "h", integer, deref(name("N.hp", ptr("N.H")))), api.OK}, {x(of(api.Field, "x", integer, v), 1), wrong},
		{of(api.Field, "x", integer, op(api.Deref, rec("M.W"), vp)), wrong}, {of(api.Field, "x", integer, op(api.Deref, ptr("M.V"), vp)), wrong}, {of(api.Field, "x", integer, op(api.Deref, rec("M.V"), v)), wrong}, {of(api.Field, "x", integer, op(api.Deref, rec("M.V"), vp, vp)), wrong}, {of(api.Field, "x", integer, of(api.Deref, "M.V", rec("M.V"), vp)), wrong}, {of(api.Field, "a", integer, deref(call("M.refs", ptr("N.R"), table, v, p, i))), wrong}, {of(api.Field, "x", integer, deref(null())), wrong},
		{of(api.Field, "u", ptr("M.V"), deref(of(api.Guard, "M.U", ptr("M.U"), p))), api.OK}, {of(api.Guard, "M.U", ptr("M.U"), up), api.OK}, {of(api.Guard, "N.R", ptr("N.R"), up), wrong}, {of(api.Guard, "M.V", ptr("M.V"), p), wrong}, {of(api.Guard, "M.U", ptr("N.R"), p), wrong}, {of(api.Guard, "M.Z", ptr("M.Z"), p), api.ErrName}, {of(api.Guard, "M.U", ptr("M.U"), null()), wrong}, {of(api.Guard, "M.U", ptr("M.U"), call("M.refs", ptr("N.R"), table, v, p, i)), wrong}, {of(api.Guard, "M.U", ptr("M.U")), wrong}, {of(api.Guard, "", ptr(""), p), wrong}, {of(api.Guard, "N.H", ptr("N.H"), name("N.hp", ptr("N.H"))), api.ErrName},
		{of(api.Is, "M.U", boolean, p), api.OK}, {of(api.Is, "M.U", boolean, call("M.refs", ptr("N.R"), table, v, p, i)), api.OK}, {of(api.Is, "M.U", boolean, null()), wrong}, {of(api.Is, "M.V", boolean, p), wrong}, {of(api.Is, "N.R", boolean, up), wrong}, {of(api.Is, "K.R", boolean, name("N.kp", ptr("K.R"))), api.ErrName}, {of(api.Is, "M.U", integer, p), wrong}, {of(api.Is, "M.U", boolean, p, p), wrong}, {of(api.Is, "M.U", boolean), wrong}, {of(api.Is, "M.U", boolean, deref(p)), wrong},
		{fun, api.OK}, {call("M.fun", char), wrong}, {call("fun", integer), api.ErrName}, {call("M.none", api.Type{}), wrong}, {call("M.fun", integer, i), wrong}, {call("M.of", char, c, up), api.OK}, {call("M.of", char, c, null()), api.OK}, {call("M.of", char, c), wrong}, {call("M.of", char, str("x"), up), wrong}, {call("M.of", char, c, vp), wrong}, {call("N.f", integer, i, c), api.OK}, {call("N.hidden", integer), api.OK}, {call("N.secret", integer), api.ErrName}, {call("N.f", integer, i, lit(char, 1)), wrong}, {x(fun, 1), wrong},
		{call("M.refs", ptr("N.R"), table, v, p, i), api.OK}, {call("M.refs", ptr("N.R"), table, w, p, i), wrong}, {call("M.refs", ptr("N.R"), table, v, up, i), wrong}, {call("M.refs", ptr("N.R"), table, deref(vp), p, i), api.OK}, {call("M.refs", ptr("N.R"), table, v, name("N.p", ptr("N.R")), i), wrong}, {call("M.refs", ptr("N.R"), table, v, p, name("N.v", integer)), wrong}, {call("M.refs", ptr("N.R"), table, v, p, fun), wrong}, {call("M.refs", ptr("N.R"), table, v, p, num(1)), wrong}, {call("M.refs", ptr("N.R"), table, v, of(api.Guard, "N.R", ptr("N.R"), p), i), wrong}, {call("M.refs", ptr("N.R"), table, v, p, of(api.Field, "a", integer, deref(name("N.p", ptr("N.R"))))), api.OK}, {call("M.refs", ptr("N.R"), table, v, p, of(api.Field, "a", integer, name("N.r", rec("N.R")))), wrong}, {call("M.refs", ptr("N.R"), table, v, p, of(api.Field, "a", integer, deref(of(api.Guard, "N.R", ptr("N.R"), name("N.p", ptr("N.R")))))), api.OK},
		{op(api.Neg, integer, i), api.OK}, {op(api.Neg, set, s), api.OK}, {op(api.Neg, integer, s), wrong}, {op(api.Neg, char, c), wrong}, {op(api.Neg, integer, i, i), wrong}, {op(api.Neg, integer), wrong}, {of(api.Neg, "x", integer, i), wrong}, {x(op(api.Neg, integer, i), 3), wrong}, {op(api.Neg, integer, num(3)), api.OK},
		{op(api.Not, boolean, b), api.OK}, {op(api.Not, boolean, i), wrong}, {op(api.Not, boolean, b, b), wrong}, {op(api.And, boolean, b, b), api.OK}, {op(api.Or, boolean, b, b), api.OK}, {op(api.Or, boolean, b, i), wrong}, {op(api.And, boolean, b), wrong}, {op(api.And, boolean, b, b, b), wrong}, {op(api.And, integer, b, b), wrong},
		{op(api.Add, integer, i, num(1)), api.OK}, {op(api.Add, integer, num(2), num(1)), api.OK}, {op(api.Sub, set, s, s), api.OK}, {op(api.Mul, set, s, s), api.OK}, {op(api.Div, set, s, s), api.OK}, {op(api.Div, integer, num(1), num(0)), api.OK}, {op(api.Mod, integer, i, i), api.OK}, {op(api.Mod, set, s, s), wrong}, {op(api.Add, integer, i, s), wrong}, {op(api.Add, set, s, i), wrong}, {op(api.Add, boolean, b, b), wrong}, {op(api.Add, char, c, c), wrong}, {op(api.Add, set, i, i), wrong}, {op(api.Add, integer, i), wrong}, {op(api.Add, api.Type{Form: api.Int, N: 1}, i, i), wrong},
		{op(api.Eq, boolean, i, i), api.OK}, {op(api.Ne, boolean, c, c), api.OK}, {op(api.Eq, boolean, b, b), api.OK}, {op(api.Eq, boolean, s, s), api.OK}, {op(api.Eq, boolean, i, c), wrong}, {op(api.Eq, boolean, p, up), api.OK}, {op(api.Eq, boolean, up, p), api.OK}, {op(api.Eq, boolean, up, vp), wrong}, {op(api.Ne, boolean, null(), up), api.OK}, {op(api.Ne, boolean, up, null()), api.OK}, {op(api.Eq, boolean, null(), null()), api.OK}, {op(api.Eq, boolean, null(), i), wrong}, {op(api.Eq, boolean, i, null()), wrong}, {op(api.Eq, boolean, v, v), wrong}, {op(api.Eq, boolean, table, table), wrong}, {op(api.Eq, boolean, str("a"), str("a")), wrong}, {op(api.Eq, boolean, i), wrong}, {op(api.Eq, boolean, i, i, i), wrong}, {op(api.Eq, integer, i, i), wrong}, {op(api.Eq, boolean, c, str("a")), wrong},
		{op(api.Lt, boolean, i, i), api.OK}, {op(api.Le, boolean, c, c), api.OK}, {op(api.Gt, boolean, i, num(3)), api.OK}, {op(api.Ge, boolean, lit(char, 3), c), api.OK}, {op(api.Lt, boolean, s, s), wrong}, {op(api.Lt, boolean, b, b), wrong}, {op(api.Lt, boolean, p, p), wrong}, {op(api.Lt, boolean, null(), null()), wrong}, {op(api.Lt, boolean, i, c), wrong},
		{op(api.In, boolean, i, s), api.OK}, {op(api.In, boolean, s, i), wrong}, {op(api.In, boolean, c, s), wrong}, {op(api.In, boolean, i), wrong},
		{op(api.SetOf, set), api.OK}, {op(api.SetOf, set, op(api.One, api.Type{}, i), op(api.Span, api.Type{}, num(40), i)), api.OK}, {op(api.SetOf, set, i), wrong}, {op(api.SetOf, set, op(api.One, integer, i)), wrong}, {op(api.SetOf, set, op(api.One, api.Type{}, c)), wrong}, {op(api.SetOf, set, op(api.One, api.Type{}, i, i)), wrong}, {op(api.SetOf, set, op(api.Span, api.Type{}, i)), wrong}, {op(api.SetOf, set, op(api.Span, api.Type{}, i, s)), wrong}, {op(api.SetOf, integer), wrong}, {op(api.SetOf, set, call("M.none", api.Type{})), wrong}, {op(api.One, api.Type{}, i), wrong},
		{op(api.Abs, integer, i), api.OK}, {op(api.Abs, integer, c), wrong}, {op(api.Odd, boolean, i), api.OK}, {op(api.Odd, integer, i), wrong}, {op(api.Odd, boolean, b), wrong}, {op(api.Lsl, integer, i, i), api.OK}, {op(api.Asr, integer, i, i), api.OK}, {op(api.Ror, integer, i, i), api.OK}, {op(api.Ror, integer, i), wrong}, {op(api.Lsl, integer, i, s), wrong}, {op(api.Ord, integer, c), api.OK}, {op(api.Ord, integer, b), api.OK}, {op(api.Ord, integer, s), api.OK}, {op(api.Ord, integer, i), wrong}, {op(api.Ord, integer, up), wrong}, {op(api.Ord, integer, str("a")), wrong}, {op(api.Chr, char, i), api.OK}, {op(api.Chr, char, num(300)), api.OK}, {op(api.Chr, char, c), wrong}, {op(api.Chr, integer, i), wrong}, {op(api.Eof, boolean), api.OK}, {op(api.Eof, boolean, i), wrong}, {op(api.Eof, integer), wrong},
		{op(-1, integer), wrong}, {op(api.Eof+1, boolean), wrong}, {op(99, integer, i), wrong},
	} {
		m := with(t, "")
		// Behind = its own type says nothing of it; what has none stands alone.
		m.Body = []api.Stmt{{Op: api.Assert, X: []api.Expr{op(api.Eq, boolean, q.e, q.e)}}}
		if q.e.T.Form == api.NoType || q.e.T.Form == api.Str {
			m.Body = []api.Stmt{{Op: api.Assert, X: []api.Expr{q.e}}}
		}
		want(t, "expression", m, q.err)
		if t.Failed() {
			t.Fatalf("%d: %+v", k, q.e)
		}
	}
}

// P17.3: Eof and Read need In, the others Out.
func TestTextModules(t *testing.T) {
	for _, x := range []struct{ stmts, needs string }{{"b := In.Eof()", "In"}, {"In.Char(c)", "In"}, {"Out.Int(1)", "Out"}, {"Out.Char(c)", "Out"}, {"Out.String(text)", "Out"}, {"Out.Ln", "Out"}, {"i := 1", ""}} {
		for _, imports := range [][]string{{"N"}, {"In", "N"}, {"N", "Out"}, {"In", "N", "Out"}} {
			m := with(t, x.stmts)
			m.Imports = imports
			is := x.needs == ""
			for _, s := range imports {
				is = is || s == x.needs
			}
			if got := Check(m, modules(t)...); (got == api.OK) != is {
				t.Errorf("%s, %v: %v", x.stmts, imports, got)
			}
		}
	}
}

// P17.4: each statement.
func TestStatements(t *testing.T) {
	i, b, c, s := name("M.i", integer), name("M.b", boolean), name("M.c", char), name("M.s", set)
	up, p, vp := name("M.up", ptr("M.U")), name("M.p", ptr("N.R")), name("M.vp", ptr("M.V"))
	v, w := name("M.v", rec("M.V")), name("M.w", rec("M.W"))
	text := name("M.text", array(6, char))
	nv, nr := name("N.v", integer), name("N.r", rec("N.R"))
	st := func(o int, x ...api.Expr) api.Stmt { return api.Stmt{Op: o, X: x} }
	bs := func(o int, n int, x ...api.Expr) api.Stmt { return api.Stmt{Op: o, X: x, B: make([][]api.Stmt, n)} }
	cs := func(x api.Expr, n int, l ...int32) api.Stmt {
		return api.Stmt{Op: api.Case, X: []api.Expr{x}, B: make([][]api.Stmt, n), I: l}
	}
	fo := func(by []int32, n int, x ...api.Expr) api.Stmt {
		return api.Stmt{Op: api.For, X: x, B: make([][]api.Stmt, n), I: by}
	}
	one := []int32{1}
	bad := [][]api.Stmt{{st(api.Assert, i)}}
	for k, q := range []struct {
		s   api.Stmt
		err api.Errno
	}{
		{st(api.Assign, i, num(1)), api.OK}, {st(api.Assign, num(1), i), wrong}, {st(api.Assign, i, c), wrong}, {st(api.Assign, i), wrong}, {st(api.Assign, i, i, i), wrong}, {bs(api.Assign, 1, i, i), wrong}, {api.Stmt{Op: api.Assign, X: []api.Expr{i, i}, I: one}, wrong}, {st(api.Assign, nv, i), wrong}, {st(api.Assign, v, v), api.OK}, {st(api.Assign, v, w), wrong}, {st(api.Assign, nr, nr), wrong}, {st(api.Assign, p, up), api.OK}, {st(api.Assign, up, p), wrong}, {st(api.Assign, up, null()), api.OK}, {st(api.Assign, i, null()), wrong},
		{st(api.Assign, text, str("hello")), api.OK}, {st(api.Assign, text, str("")), api.OK}, {st(api.Assign, text, str("hello!")), wrong}, {st(api.Assign, text, text), api.OK}, {st(api.Assign, c, str("x")), wrong}, {st(api.Assign, text, str("\n")), wrong}, {st(api.Assign, of(api.Guard, "N.R", ptr("N.R"), p), p), wrong}, {st(api.Assign, op(api.Deref, rec("N.R"), of(api.Guard, "N.R", ptr("N.R"), p)), nr), api.OK}, {st(api.Assign, of(api.Call, "M.fun", integer), i), wrong},
		{st(api.Do, of(api.Call, "M.none", api.Type{})), api.OK}, {st(api.Do, of(api.Call, "N.g", api.Type{})), api.OK}, {st(api.Do, of(api.Call, "N.secret", api.Type{})), wrong}, {st(api.Do, of(api.Call, "M.fun", integer)), wrong}, {st(api.Do, of(api.Call, "M.fun", api.Type{})), wrong}, {st(api.Do, of(api.Call, "M.none", integer)), wrong}, {st(api.Do), wrong}, {st(api.Do, of(api.Call, "M.none", api.Type{}), of(api.Call, "M.none", api.Type{})), wrong}, {st(api.Do, i), wrong}, {st(api.Do, of(api.Call, "M.two", api.Type{}, i, c)), api.OK}, {st(api.Do, of(api.Call, "M.two", api.Type{}, i, lit(char, 3))), wrong}, {st(api.Do, of(api.Call, "M.two", api.Type{}, i)), wrong}, {st(api.Do, api.Expr{Op: api.Call, S: "M.none", I: 1}), wrong}, {st(api.Do, of(api.Call, "M.two", api.Type{}, name("M.zz", integer), c)), wrong}, {st(api.Do, op(api.One, api.Type{}, i)), wrong},
		{bs(api.If, 1, b), api.OK}, {bs(api.If, 2, b), api.OK}, {bs(api.If, 3, b), wrong}, {bs(api.If, 0, b), wrong}, {bs(api.If, 2, b, b), api.OK}, {bs(api.If, 1, b, b), wrong}, {bs(api.If, 1), wrong}, {bs(api.If, 0), wrong}, {bs(api.If, 1, i), wrong}, {bs(api.If, 2, b, i), wrong}, {api.Stmt{Op: api.If, X: []api.Expr{b}, B: [][]api.Stmt{nil}, I: one}, wrong}, {api.Stmt{Op: api.If, X: []api.Expr{b}, B: bad}, wrong}, {api.Stmt{Op: api.If, X: []api.Expr{b}, B: append([][]api.Stmt{nil}, bad...)}, wrong},
		{bs(api.While, 1, b), api.OK}, {bs(api.While, 2, b, b), api.OK}, {bs(api.While, 2, b), wrong}, {bs(api.While, 1, b, b), wrong}, {bs(api.While, 0), wrong}, {bs(api.While, 1, i), wrong}, {api.Stmt{Op: api.While, X: []api.Expr{b}, B: bad}, wrong}, {api.Stmt{Op: api.While, X: []api.Expr{b}, B: [][]api.Stmt{nil}, I: one}, wrong},
		{bs(api.Repeat, 1, b), api.OK}, {bs(api.Repeat, 1, i), wrong}, {bs(api.Repeat, 2, b), wrong}, {bs(api.Repeat, 0, b), wrong}, {bs(api.Repeat, 1, b, b), wrong}, {api.Stmt{Op: api.Repeat, X: []api.Expr{b}, B: bad}, wrong}, {api.Stmt{Op: api.Repeat, X: []api.Expr{b}, B: [][]api.Stmt{nil}, I: one}, wrong},
		{fo(one, 1, i, i, i), api.OK}, {fo([]int32{-1 << 31}, 1, i, num(1), num(2)), api.OK}, {fo([]int32{0}, 1, i, i, i), wrong}, {fo(nil, 1, i, i, i), wrong}, {fo([]int32{1, 1}, 1, i, i, i), wrong}, {fo(one, 0, i, i, i), wrong}, {fo(one, 2, i, i, i), wrong}, {fo(one, 1, i, i), wrong}, {fo(one, 1, i, i, c), wrong}, {fo(one, 1, i, c, i), wrong}, {fo(one, 1, c, i, i), wrong}, {fo(one, 1, nv, i, i), wrong}, {fo(one, 1, of(api.Field, "x", integer, v), i, i), wrong}, {fo(one, 1, num(1), i, i), wrong}, {api.Stmt{Op: api.For, X: []api.Expr{i, i, i}, I: one, B: bad}, wrong},
		{cs(i, 0), api.OK}, {cs(c, 0), api.OK}, {cs(b, 0), wrong}, {cs(s, 0), wrong}, {cs(i, 1), wrong}, {cs(i, 1, 1, 1, 0), api.OK}, {cs(i, 1, -5, 5, 0), api.OK}, {cs(i, 1, 2, 1, 0), wrong}, {cs(i, 1, 1, 1, 1), wrong}, {cs(i, 0, 1, 1, -1), wrong}, {cs(i, 1, 1, 1, -1), wrong}, {cs(i, 1, 1, 1), wrong}, {cs(i, 1, 1, 1, 0, 2), wrong}, {cs(i, 2, 1, 1, 0), wrong}, {cs(i, 2, 1, 1, 0, 2, 2, 1), api.OK}, {cs(i, 2, 5, 9, 0, 2, 4, 0, 10, 10, 1, 1, 1, 1), api.OK}, {cs(i, 2, 1, 1, 1, 2, 2, 0), wrong}, {cs(i, 3, 1, 1, 0, 2, 2, 2, 3, 3, 1), wrong}, {cs(i, 2, 1, 1, 0, 2, 2, 1, 3, 3, 0), wrong}, {cs(i, 3, 1, 1, 0, 2, 2, 2), wrong},
		{cs(i, 2, 1, 5, 0, 5, 9, 1), wrong}, {cs(i, 1, 1, 5, 0, 2, 3, 0), wrong}, {cs(i, 1, 2, 3, 0, 1, 5, 0), wrong}, {cs(i, 1, 2, 3, 0, 1, 2, 0), wrong}, {cs(i, 1, -1<<31, 1<<31-1, 0), api.OK}, {cs(c, 1, 0, 255, 0), api.OK}, {cs(c, 1, -1, 255, 0), wrong}, {cs(c, 1, 0, 256, 0), wrong}, {api.Stmt{Op: api.Case}, wrong}, {api.Stmt{Op: api.Case, X: []api.Expr{i, i}}, wrong}, {api.Stmt{Op: api.Case, X: []api.Expr{i}, B: bad, I: []int32{1, 1, 0}}, wrong},
		{st(api.Inc, i, num(1)), api.OK}, {st(api.Dec, i, i), api.OK}, {st(api.Inc, i), wrong}, {st(api.Inc, nv, i), wrong}, {st(api.Dec, num(1), i), wrong}, {st(api.Inc, c, i), wrong}, {st(api.Inc, i, c), wrong}, {st(api.Inc, i, i, i), wrong}, {bs(api.Inc, 1, i, i), wrong},
		{st(api.Incl, s, i), api.OK}, {st(api.Excl, s, num(40)), api.OK}, {st(api.Incl, s), wrong}, {st(api.Incl, i, i), wrong}, {st(api.Excl, s, s), wrong}, {st(api.Incl, lit(set, 0), i), wrong},
		{st(api.New, up), api.OK}, {st(api.New, i), wrong}, {st(api.New, null()), wrong}, {st(api.New, name("N.p", ptr("N.R"))), wrong}, {st(api.New, of(api.Guard, "N.R", ptr("N.R"), p)), wrong}, {st(api.New), wrong}, {st(api.New, vp, vp), wrong},
		{st(api.Assert, b), api.OK}, {st(api.Assert, i), wrong}, {st(api.Assert), wrong}, {st(api.Assert, b, b), wrong}, {st(api.Read, c), api.OK}, {st(api.Read, i), wrong}, {st(api.Read, lit(char, 0)), wrong}, {st(api.Read), wrong},
		{st(api.PutInt, i), api.OK}, {st(api.PutInt, c), wrong}, {st(api.PutInt), wrong}, {st(api.PutChar, c), api.OK}, {st(api.PutChar, lit(char, 9)), api.OK}, {st(api.PutChar, str("x")), wrong}, {st(api.PutChar), wrong}, {st(api.PutStr, text), api.OK}, {st(api.PutStr, str("")), api.OK}, {st(api.PutStr, name("M.t", array(4, array(5, integer)))), wrong}, {st(api.PutStr, c), wrong}, {st(api.PutStr), wrong}, {st(api.PutStr, text, text), wrong}, {st(api.PutLn), api.OK}, {st(api.PutLn, i), wrong}, {bs(api.PutLn, 1), wrong}, {api.Stmt{Op: api.PutLn, I: one}, wrong},
		{st(-1), wrong}, {st(api.PutLn + 1), wrong}, {st(99, i), wrong},
	} {
		m := with(t, "")
		m.Body = []api.Stmt{{Op: api.PutLn}, q.s}
		want(t, "statement", m, q.err)
		m.Procs[0].Body, m.Body = m.Body, nil
		want(t, "statement of a procedure", m, q.err)
		if t.Failed() {
			t.Fatalf("%d: %+v", k, q.s)
		}
	}
}

// P17.4: a For counts by a parameter, but not by one with VAR.
func TestCounters(t *testing.T) {
	for _, x := range []struct {
		s  string
		is bool
	}{{"a", true}, {"loc", true}, {"ref", false}, {"M.i", true}, {"arr", false}} {
		m := with(t, "")
		m.Procs[1].Params[1].T = integer
		m.Procs[1].Body = []api.Stmt{{Op: api.For, X: []api.Expr{name(x.s, integer), num(1), num(2)}, B: [][]api.Stmt{nil}, I: []int32{1}}}
		if got := Check(m, modules(t)...); (got == api.OK) != x.is {
			t.Errorf("%s: %v", x.s, got)
		}
	}
}

// P17.4: what is local may be assigned, and stands ahead of nothing else.
func TestLocals(t *testing.T) {
	for _, x := range []struct {
		s  api.Stmt
		is bool
	}{
		{api.Stmt{Op: api.Assign, X: []api.Expr{name("a", integer), name("loc", integer)}}, true},
		{api.Stmt{Op: api.Assign, X: []api.Expr{name("ref", char), lit(char, 1)}}, true},
		{api.Stmt{Op: api.Assign, X: []api.Expr{name("ref", integer), num(1)}}, false},
		{api.Stmt{Op: api.Assign, X: []api.Expr{name("n", integer), num(1)}}, false},
		{api.Stmt{Op: api.Assign, X: []api.Expr{name("M.loc", integer), num(1)}}, false},
	} {
		m := with(t, "")
		m.Procs[1].Body = append(empty, x.s)
		if got := Check(m, modules(t)...); (got == api.OK) != x.is {
			t.Errorf("%+v: %v", x.s, got)
		}
		m.Body = append(empty, x.s)
		if got := Check(m, modules(t)...); got == api.OK {
			t.Errorf("%+v in the body: %v", x.s, got)
		}
	}
}
