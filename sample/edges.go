package sample

import "wafer/api"

// Unfolded tells statements of operators of constants, which no source leaves as they are.
func Unfolded() []api.Stmt {
	form := func(f int) api.Type { return api.Type{Form: f} }
	num := func(i int32) api.Expr { return api.Expr{T: form(api.Int), I: i} }
	op := func(o, f int, x ...api.Expr) api.Expr { return api.Expr{Op: o, T: form(f), X: x} }
	put := func(e api.Expr) api.Stmt { return api.Stmt{Op: api.PutInt, X: []api.Expr{e}} }
	ord := func(e api.Expr) api.Stmt { return put(op(api.Ord, api.Int, e)) }
	null := api.Expr{T: form(api.Nil)}
	var l []api.Stmt
	edges := []int32{0, 1, -1, 31, 32, 255, 256, 65535, 65536, -65535, -65536, -65537, 1<<31 - 1, -1 << 31}
	for _, a := range edges {
		l = append(l, put(num(a)), put(op(api.Neg, api.Int, num(a))), put(op(api.Abs, api.Int, num(a))), ord(op(api.Odd, api.Bool, num(a))), ord(op(api.Chr, api.Char, num(a))), ord(op(api.SetOf, api.Set, op(api.One, api.NoType, num(a)))), ord(op(api.Neg, api.Set, api.Expr{T: form(api.Set), I: a})))
		for _, b := range edges {
			for _, o := range []int{api.Add, api.Sub, api.Mul, api.Div, api.Mod, api.Lsl, api.Asr, api.Ror} {
				l = append(l, put(op(o, api.Int, num(a), num(b))))
			}
			for _, o := range []int{api.Eq, api.Ne, api.Lt, api.Le, api.Gt, api.Ge} {
				l = append(l, ord(op(o, api.Bool, num(a), num(b))))
			}
			for _, o := range []int{api.Add, api.Sub, api.Mul, api.Div} {
				l = append(l, ord(op(o, api.Set, api.Expr{T: form(api.Set), I: a}, api.Expr{T: form(api.Set), I: b})))
			}
			l = append(l, ord(op(api.In, api.Bool, num(a), api.Expr{T: form(api.Set), I: b})), ord(op(api.SetOf, api.Set, op(api.Span, api.NoType, num(a), num(b)))))
		}
	}
	for _, a := range []int32{0, 1} {
		for _, b := range []int32{0, 1} {
			for _, o := range []int{api.And, api.Or, api.Eq, api.Ne} {
				l = append(l, ord(op(o, api.Bool, api.Expr{T: form(api.Bool), I: a}, api.Expr{T: form(api.Bool), I: b})))
			}
		}
		l = append(l, ord(op(api.Not, api.Bool, api.Expr{T: form(api.Bool), I: a})))
	}
	return append(l, ord(op(api.SetOf, api.Set)), ord(op(api.Eq, api.Bool, null, null)), ord(op(api.Ne, api.Bool, null, null)), api.Stmt{Op: api.Case, X: []api.Expr{num(1)}})
}

// Great tells a module whose frames and variables are as great as may be; it uses all registers, and calls as often as may be.
func Great() string {
	return "MODULE M; IMPORT Out; TYPE R = RECORD a: ARRAY 100 OF INTEGER END; VAR big: ARRAY 1024 OF ARRAY 15 OF INTEGER; big2: ARRAY 1000 OF INTEGER; p: POINTER TO R; i: INTEGER;\nPROCEDURE f(n, m: INTEGER): INTEGER; VAR a, b: ARRAY 1000 OF INTEGER; c: ARRAY 42 OF INTEGER; r, x1, x2, x3: INTEGER; BEGIN FOR x1 := 1 TO 1 DO FOR x2 := 1 TO 1 DO FOR x3 := 1 TO 1 DO NEW(p); a[999] := n; b[999] := n; c[41] := c[41] + n; IF n > 0 THEN r := 1 + (1 + (1 + (1 + (1 + (1 + (1 + (1 + (1 + (1 + f(n - 1, n)))))))))) END END END END; ASSERT((a[999] = n) & (b[999] = n) & (c[41] = n) & (p.a[99] = 0)); p.a[99] := 1; NEW(p) RETURN r + m END f;\nBEGIN big[1023, 14] := 7; i := f(99, 0); Out.Int(i); Out.Int(big[1023, 14]); NEW(p); i := f(100, 0) END M."
}

// Far tells a module with a record that is as great as may be.
func Far() string {
	return "MODULE M; IMPORT Out; TYPE E = RECORD END; Z = RECORD a: ARRAY 1024 OF ARRAY 15 OF CHAR; b: ARRAY 1023 OF INTEGER; l: INTEGER; e, f: E END; Y = RECORD (Z) END; VAR p, r: POINTER TO Z; q: POINTER TO Y; BEGIN NEW(p); Out.Char(\"p\"); p.l := 5; p.e := p.f; p^.b[1022] := 3; NEW(q); Out.Char(\"q\"); q.l := 6; r := q; r^ := p^; r.e := p.f; Out.Int(p.l * 10 + q.l * 100 + q.b[1022] + ORD(p.a[1023, 14])) END M."
}

// Heap tells a module that needs ten words of the heap.
func Heap() string {
	return "MODULE M; IMPORT Out; TYPE R = RECORD a: ARRAY 3 OF INTEGER END; S = RECORD (R) b: CHAR END; E = RECORD END; VAR r: POINTER TO R; s: POINTER TO S; e: POINTER TO E; BEGIN NEW(e); Out.Char(\"e\"); NEW(r); r.a[2] := -1; Out.Char(\"r\"); NEW(s); ASSERT(s.b = 0X); s.b := \"x\"; Out.Char(\"s\"); ASSERT(r.a[2] + 1 = 0) END M."
}

// Writes tells a module that writes and ends.
func Writes() string {
	return "MODULE M; IMPORT Out; VAR i, j: INTEGER; PROCEDURE p(n: INTEGER); BEGIN Out.Int(n); IF n > 0 THEN p(n - 1) END END p; BEGIN FOR i := 1 TO 3 DO p(i); Out.String(\"ab\"); Out.Ln END END M."
}

// Wrong tells statements that no right tree has.
func Wrong() []api.Stmt {
	name := api.Expr{Op: api.Name, S: "M.x", T: api.Type{Form: api.Int}}
	return []api.Stmt{
		{Op: -1}, {Op: 99}, {Op: api.Assign}, {Op: api.Assign, X: []api.Expr{name, name}}, {Op: api.Do, X: []api.Expr{{Op: api.Call, S: "M.p"}}}, {Op: api.If}, {Op: api.While, X: []api.Expr{{}}}, {Op: api.Repeat}, {Op: api.For, X: []api.Expr{name, name, name}}, {Op: api.Case, X: []api.Expr{{}}, I: []int32{0, 0, 9}}, {Op: api.Inc}, {Op: api.New, X: []api.Expr{name}},
		{Op: api.PutInt, X: []api.Expr{{Op: 99}}}, {Op: api.PutInt, X: []api.Expr{{Op: api.Add}}}, {Op: api.PutStr, X: []api.Expr{{Op: api.Index}}}, {Op: api.PutStr, X: []api.Expr{{Op: api.Guard}}}, {Op: api.Assert, X: []api.Expr{{Op: api.Is, X: []api.Expr{{I: 9}}}}},
	}
}
