package recheck

import (
	"strings"
	"testing"

	"wafer/api"
	"wafer/front"
	"wafer/tree"
)

// third is imported by other, and other by the tests' module.
const (
	third = `MODULE K; TYPE R* = RECORD k: INTEGER END; Q = RECORD (R) END; VAR q*: POINTER TO Q; END K.`
	other = `MODULE N; IMPORT K, In;
CONST k* = 5; word* = "word";
TYPE R* = RECORD a, b: INTEGER; next: POINTER TO R END; P* = POINTER TO R; H = RECORD h: INTEGER END; B* = RECORD (R) c: CHAR END; A* = ARRAY 3 OF INTEGER; E* = RECORD (H) END; KP* = POINTER TO K.R;
VAR v*, w: INTEGER; p*: P; hp*: POINTER TO H; kp*: KP; arr*: A; r*: R; h*: H;
PROCEDURE f*(x: INTEGER; VAR y: CHAR): INTEGER; RETURN x END f;
PROCEDURE g*; BEGIN INC(w) END g;
PROCEDURE hidden*(): INTEGER; RETURN 1 END hidden;
PROCEDURE secret; END secret;
END N.`
	declared = `MODULE M; IMPORT In, N, Out;
CONST three* = 3; letter = 41X; hello = "hello"; all = {0 .. 31}; yes = TRUE;
TYPE V* = RECORD x: INTEGER; c: CHAR END; U = RECORD (N.B) d: ARRAY 10 OF CHAR; u: POINTER TO V END; UP = POINTER TO U; T = ARRAY 4 OF ARRAY 5 OF INTEGER; VP = POINTER TO V; W = RECORD (V) END;
VAR i*, j: INTEGER; c: CHAR; b: BOOLEAN; s: SET; t: T; u: U; v: V; w: W; up: UP; text: ARRAY 6 OF CHAR; p: N.P; vp: VP; wp: POINTER TO W;
PROCEDURE none; END none;
PROCEDURE two(a: INTEGER; VAR ref: CHAR); VAR loc: INTEGER; lt: T; BEGIN loc := a; ref := "x" END two;
PROCEDURE fun*(): INTEGER; RETURN 7 END fun;
PROCEDURE of(ch: CHAR; ptr: N.P): CHAR; RETURN ch END of;
PROCEDURE refs(VAR arr: T; VAR rec: V; VAR ptr: N.P; VAR n: INTEGER): N.P; RETURN ptr END refs;
`
)

// compiled tells the tree of a source that has no faults.
func compiled(t *testing.T, src string, mods ...api.Module) api.Module {
	t.Helper()
	m, diags := front.Compile(src, mods...)
	if len(diags) > 0 {
		t.Fatalf("%v ahead of %.40q in\n%s", diags, src[diags[0].Pos:], src)
	}
	return m
}

// modules are those that the tests' module may import.
func modules(t *testing.T) []api.Module {
	t.Helper()
	k := compiled(t, third)
	return []api.Module{compiled(t, other, k), k}
}

// with tells the tests' module with these statements.
func with(t *testing.T, stmts string) api.Module {
	t.Helper()
	return compiled(t, declared+"BEGIN "+stmts+" END M.", modules(t)...)
}

// want checks what Check tells of m (wrong: any error); ErrLimit is of what isn't small alone.
func want(t *testing.T, what string, m api.Module, err api.Errno) {
	t.Helper()
	before := tree.Clone(m)
	got := Check(m, modules(t)...)
	if got != err && (err != wrong || got == api.OK) {
		t.Errorf("%s: %v, want %v", what, got, err)
	}
	switch got {
	case api.OK, api.ErrName, api.ErrType, api.ErrLimit, api.ErrImport:
	default:
		t.Errorf("%s: %v is no error of this layer", what, got)
	}
	if (got == api.ErrLimit) == tree.Small(m) {
		t.Errorf("%s: %v, small: %v", what, got, tree.Small(m))
	}
	if !tree.Same(m, before) {
		t.Errorf("%s: what was handed in is changed", what)
	}
}

// wrong stands for any error.
const wrong api.Errno = 1

// P17.1: names.
func TestIdent(t *testing.T) {
	for _, s := range []string{"a", "z", "A", "Z", "x1", "a0", "a9", "zZ90", "In", "Out", "Begin", "ARRAYS", "integer", "ABSOLUTE", "SE", "NT", strings.Repeat("a", 32), "LENGTH", "E"} {
		if !Ident(s) {
			t.Errorf("%q isn't", s)
		}
	}
	for _, s := range []string{"", "1", "1a", "_", "a_b", "a.b", "a ", " a", "a b", "ä", "a*", "\x00", "a\x80", strings.Repeat("a", 33), "INC DEC", " ", "@", "[", "`", "{", "/", ":"} {
		if Ident(s) {
			t.Errorf("%q is", s)
		}
	}
	for _, s := range strings.Fields(keywords + standard) {
		if Ident(s) || !Ident(s+"x") || !Ident("x"+s) {
			t.Errorf("%q", s)
		}
	}
	if n := len(strings.Fields(keywords + standard)); n != 33+18 {
		t.Errorf("%d words", n)
	}
}

// P17.1, P17.5: what front tells is right.
func TestFront(t *testing.T) {
	for _, stmts := range []string{
		"", "i := 1; c := letter; text := hello; text := N.word; b := yes; s := all", "i := N.v; i := w.x",
		"i := three * N.k - j DIV 3 MOD 4; s := s + all * {i, 3 .. j} / {} - (-s); b := ~b OR (i < 3) & (c >= \"x\") & (i IN s)",
		"t[i, 3] := N.arr[i MOD 3]; u.a := 3; u.d[i] := \"x\"; up := NIL; NEW(up); p := up; p(U).u := NIL",
		"p := up; up.u := vp; vp^ := v; p(U).u.x := 3; ASSERT(p IS U); b := N.p # up; N.p.a := 3; N.p^ := N.r; b := (p = NIL) OR (NIL # NIL)",
		"none; two(i, c); two(fun(), text[3]); c := of(c, up); p := refs(t, v, N.p.next, N.p.b); N.g; i := N.f(3, u.c)",
		"INC(i); DEC(t[1, 2], i); INCL(s, 3); EXCL(s, i); NEW(vp); ASSERT(b); In.Char(c); Out.Int(i); Out.Char(\"x\"); Out.String(hello); Out.String(text); Out.String(u.d); Out.Ln",
		"IF b THEN i := 1 ELSIF In.Eof() THEN ELSE none END; WHILE b DO ELSIF ODD(i) DO INC(i) END; REPEAT UNTIL b; FOR i := 1 TO 3 BY -2 DO j := i END",
		"CASE i OF END; CASE c OF \"a\" .. \"f\", \"x\": | 0X: i := 3 END; CASE i OF -5 .. 5: | 7, 8: j := 3 | 6: END",
		"i := ABS(i) + ORD(c) + ORD(b) + ORD(s) + LSL(i, j) - ASR(i, 3) * ROR(3, j); c := CHR(i); i := LEN(t) + i DIV 0",
	} {
		want(t, stmts, with(t, stmts), api.OK)
	}
	for i, m := range modules(t) {
		if err := Check(m, modules(t)...); err != api.OK {
			t.Errorf("%d: %v", i, err)
		}
	}
	if err := Check(compiled(t, "MODULE M; END M.")); err != api.OK {
		t.Errorf("%v", err)
	}
}

// P17.1: ErrLimit comes first.
func TestLimit(t *testing.T) {
	m := with(t, "i := 1")
	m.Imports = append(m.Imports, "Nowhere")
	m.Body[0].X[0].S = "nothing"
	want(t, "wrong", m, wrong)
	m.Name = strings.Repeat("x", 66)
	want(t, "not small", m, api.ErrLimit)
	m = with(t, "i := 1")
	for range 63 {
		m.Body = []api.Stmt{{Op: api.Repeat, X: []api.Expr{{T: api.Type{Form: api.Bool}}}, B: [][]api.Stmt{m.Body}}}
	}
	want(t, "64", m, api.OK)
	want(t, "65", api.Module{Name: "M", Body: []api.Stmt{{Op: api.Repeat, X: []api.Expr{{T: api.Type{Form: api.Bool}}}, B: [][]api.Stmt{m.Body}}}}, api.ErrLimit)
	deep := api.Expr{T: api.Type{Form: api.Int}}
	for range 999 {
		deep = api.Expr{Op: api.Neg, T: api.Type{Form: api.Int}, X: []api.Expr{deep}}
	}
	want(t, "1000", api.Module{Name: "M", Body: []api.Stmt{{Op: api.Inc, X: []api.Expr{deep, deep}}}}, api.ErrLimit)
}

// P17.1: m's own Name among mods says nothing.
func TestOwnName(t *testing.T) {
	m := with(t, "i := 1; N.g")
	if err := Check(m, append([]api.Module{{Name: "M", Vars: []api.Var{{Name: "1"}}, Recs: []api.Rec{{Name: "V", Base: "M.V"}}}}, modules(t)...)...); err != api.OK {
		t.Errorf("%v", err)
	}
	m.Imports = append(m.Imports, "M")
	if err := Check(m, append([]api.Module{{Name: "M"}}, modules(t)...)...); err == api.OK {
		t.Error("imports itself")
	}
}

// change is a change of a right tree, and what Check tells then.
type change struct {
	what string
	f    func(m *api.Module)
	err  api.Errno
}

// try makes each of the changes, one by one.
func try(t *testing.T, stmts string, l []change) {
	t.Helper()
	for _, x := range l {
		m := with(t, stmts)
		want(t, x.what+": ahead", m, api.OK)
		x.f(&m)
		want(t, x.what, m, x.err)
	}
}

var (
	integer = api.Type{Form: api.Int}
	char    = api.Type{Form: api.Char}
	boolean = api.Type{Form: api.Bool}
	set     = api.Type{Form: api.Set}
	empty   = []api.Stmt(nil)
)

func ptr(s string) api.Type { return api.Type{Form: api.Pointer, Name: s} }
func rec(s string) api.Type { return api.Type{Form: api.Record, Name: s} }
func array(n int, t api.Type) api.Type {
	return api.Type{Form: api.Array, N: n, Of: []api.Type{t}}
}

func num(i int32) api.Expr             { return api.Expr{T: integer, I: i} }
func lit(t api.Type, i int32) api.Expr { return api.Expr{T: t, I: i} }
func str(s string) api.Expr            { return api.Expr{T: api.Type{Form: api.Str}, S: s} }
func null() api.Expr                   { return api.Expr{T: api.Type{Form: api.Nil}} }
func name(s string, t api.Type) api.Expr {
	return api.Expr{Op: api.Name, S: s, T: t}
}
func op(o int, t api.Type, x ...api.Expr) api.Expr { return api.Expr{Op: o, T: t, X: x} }
func of(o int, s string, t api.Type, x ...api.Expr) api.Expr {
	return api.Expr{Op: o, S: s, T: t, X: x}
}

// P17.2: names and imports.
func TestNames(t *testing.T) {
	try(t, "", []change{
		{"name", func(m *api.Module) { m.Name = "" }, wrong},
		{"In", func(m *api.Module) { *m = api.Module{Name: "In"} }, api.ErrName},
		{"Out", func(m *api.Module) { *m = api.Module{Name: "Out"} }, api.ErrName},
		{"ABS", func(m *api.Module) { *m = api.Module{Name: "ABS"} }, api.ErrName},
		{"A.B", func(m *api.Module) { *m = api.Module{Name: "A.B"} }, api.ErrName},
		{"plain", func(m *api.Module) { *m = api.Module{Name: "Inn"} }, api.OK},
		{"no such import", func(m *api.Module) { m.Imports[0] = "Q" }, api.ErrImport},
		{"twice", func(m *api.Module) { m.Imports = append(m.Imports, "N") }, wrong},
		{"In twice", func(m *api.Module) { m.Imports = append(m.Imports, "In") }, wrong},
		{"itself", func(m *api.Module) { m.Imports = append(m.Imports, "M") }, wrong},
		{"another one", func(m *api.Module) { m.Imports = append(m.Imports, "K") }, api.OK},
		{"without In", func(m *api.Module) { m.Imports = m.Imports[1:] }, api.OK},
		{"a constant's name", func(m *api.Module) { m.Consts[1].Name = "c" }, api.ErrName},
		{"a type's name", func(m *api.Module) { m.Names[0].Name = "V" }, api.ErrName},
		{"a record's name", func(m *api.Module) { m.Recs[2].Name = "V" }, wrong},
		{"a variable's name", func(m *api.Module) { m.Vars[1].Name = "In" }, api.ErrName},
		{"a variable's name, no ident", func(m *api.Module) { m.Vars[1].Name = "a b" }, api.ErrName},
		{"a constant's name, no ident", func(m *api.Module) { m.Consts[1].Name = "END" }, api.ErrName},
		{"a type's name, no ident", func(m *api.Module) { m.Names[1].Name = "SET" }, api.ErrName},
		{"a record's name, no ident", func(m *api.Module) { m.Recs[2].Name = "" }, wrong},
		{"a procedure's name, no ident", func(m *api.Module) { m.Procs[0].Name = "1" }, api.ErrName},
		{"a procedure's name", func(m *api.Module) { m.Procs[0].Name = "fun" }, api.ErrName},
		{"a procedure's, of an import", func(m *api.Module) { m.Procs[0].Name = "N" }, api.ErrName},
		{"exported", func(m *api.Module) { m.Vars[1].Export, m.Recs[1].Export = true, true }, api.OK},
		{"local twice", func(m *api.Module) { m.Procs[1].Locals[1].Name = "loc" }, api.ErrName},
		{"local like a parameter", func(m *api.Module) { m.Procs[1].Locals[1].Name = "a" }, api.ErrName},
		{"local like an import", func(m *api.Module) { m.Procs[1].Locals[1].Name = "Out" }, api.ErrName},
		{"parameter like an import", func(m *api.Module) { m.Procs[3].Params[1].Name = "N" }, api.ErrName},
		{"parameter twice", func(m *api.Module) { m.Procs[3].Params[1].Name = "ch" }, api.ErrName},
		{"parameter, no ident", func(m *api.Module) { m.Procs[3].Params[1].Name = "NIL" }, api.ErrName},
		{"local, no ident", func(m *api.Module) { m.Procs[1].Locals[1].Name = "M.i" }, api.ErrName},
		{"local like a variable", func(m *api.Module) { m.Procs[1].Locals[1].Name = "i" }, api.OK},
		{"local like a module that isn't imported", func(m *api.Module) { m.Procs[1].Locals[1].Name = "K" }, api.OK},
		{"local like its procedure", func(m *api.Module) { m.Procs[1].Locals[1].Name = "two" }, api.OK},
		{"exported local", func(m *api.Module) { m.Procs[1].Locals[1].Export = true }, api.OK},
		{"exported field", func(m *api.Module) { m.Recs[0].Fields[0].Export = true }, api.OK},
	})
}

// P17.2: types.
func TestTypes(t *testing.T) {
	big := array(1024, array(17, integer))
	try(t, "", []change{
		{"no base", func(m *api.Module) { m.Recs[2].Base = "" }, api.OK},
		{"base that isn't there", func(m *api.Module) { m.Recs[2].Base = "M.Z" }, api.ErrName},
		{"base without a module", func(m *api.Module) { m.Recs[2].Base = "V" }, api.ErrName},
		{"base that isn't exported", func(m *api.Module) { m.Recs[2].Base = "N.H" }, api.ErrName},
		{"base of no import", func(m *api.Module) { m.Recs[2].Base = "K.R" }, api.ErrName},
		{"base of an import", func(m *api.Module) { m.Imports = append(m.Imports, "K"); m.Recs[2].Base = "K.R" }, api.OK},
		{"base with a hidden base", func(m *api.Module) { m.Recs[2].Base = "N.E" }, api.OK},
		{"field of a hidden base", func(m *api.Module) {
			m.Recs[2].Base = "N.E"
			m.Recs[2].Fields = []api.Var{{Name: "h", T: integer}}
		}, api.ErrName},
		{"its own base", func(m *api.Module) { m.Recs[2].Base = "M.W" }, wrong},
		{"bases that go round", func(m *api.Module) { m.Recs[0].Base = "M.W" }, wrong},
		{"field twice", func(m *api.Module) { m.Recs[0].Fields[1].Name = "x" }, api.ErrName},
		{"field of its base", func(m *api.Module) { m.Recs[1].Fields[0].Name = "next" }, api.ErrName},
		{"field, no ident", func(m *api.Module) { m.Recs[1].Fields[0].Name = "CHR" }, api.ErrName},
		{"field like a module", func(m *api.Module) { m.Recs[1].Fields[0].Name = "In" }, api.OK},
		{"in itself", func(m *api.Module) { m.Recs[0].Fields[0].T = rec("M.V") }, wrong},
		{"in itself, in an array", func(m *api.Module) { m.Recs[0].Fields[0].T = array(2, rec("M.W")) }, wrong},
		{"pointer to itself", func(m *api.Module) { m.Recs[0].Fields[0].T = ptr("M.V"); m.Vars = nil; m.Procs = nil }, api.OK},
		{"too many words", func(m *api.Module) { m.Recs[0].Fields[0].T = big }, wrong},
		{"too many words together", func(m *api.Module) {
			m.Recs = append(m.Recs, api.Rec{Name: "X", Fields: []api.Var{{Name: "a", T: array(1024, array(8, integer))}, {Name: "b", T: array(1024, array(8, integer))}, {Name: "c", T: integer}}})
		}, wrong},
		{"as many words as may be", func(m *api.Module) {
			m.Recs = append(m.Recs, api.Rec{Name: "X", Fields: []api.Var{{Name: "a", T: array(1024, array(8, integer))}, {Name: "b", T: array(1024, array(8, integer))}}})
		}, api.OK},
		{"words of an array", func(m *api.Module) { m.Names[0].T = big }, wrong},
		{"hidden record", func(m *api.Module) { m.Names[0].T = rec("N.H") }, api.ErrName},
		{"hidden record in an array", func(m *api.Module) { m.Names[0].T = array(2, array(2, ptr("N.H"))) }, api.ErrName},
		{"record of no import", func(m *api.Module) { m.Vars[0].T = ptr("K.R") }, api.ErrName},
		{"no such record", func(m *api.Module) { m.Vars[0].T = ptr("M.X") }, api.ErrName},
		{"pointer to a type", func(m *api.Module) { m.Vars[0].T = ptr("M.T") }, api.ErrName},
		{"no type", func(m *api.Module) { m.Vars[0].T = api.Type{} }, api.ErrType},
		{"string", func(m *api.Module) { m.Vars[0].T.Form = api.Str }, api.ErrType},
		{"form", func(m *api.Module) { m.Vars[0].T.Form = -1 }, api.ErrType},
		{"integer with a name", func(m *api.Module) { m.Vars[0].T.Name = "x" }, api.ErrType},
		{"integer with a number", func(m *api.Module) { m.Names[0].T = api.Type{Form: api.Int, N: 1} }, api.ErrType},
		{"array of none", func(m *api.Module) { m.Vars[0].T = array(0, integer) }, api.ErrType},
		{"array of too many", func(m *api.Module) { m.Vars[0].T = array(1025, integer) }, api.ErrType},
		{"array of most", func(m *api.Module) { m.Procs, m.Vars[0].T = nil, array(1024, integer) }, api.OK},
		{"array of nothing", func(m *api.Module) { m.Vars[0].T = api.Type{Form: api.Array, N: 1} }, api.ErrType},
		{"field's type", func(m *api.Module) { m.Recs[0].Fields[0].T = api.Type{} }, wrong},
		{"local's type", func(m *api.Module) { m.Procs[1].Locals[1].T = api.Type{} }, api.ErrType},
		{"local's record", func(m *api.Module) { m.Procs[1].Locals[1].T = rec("N.H") }, api.ErrName},
		{"parameter's type", func(m *api.Module) { m.Procs[4].Params[0].T = api.Type{} }, api.ErrType},
		{"parameter's record", func(m *api.Module) { m.Procs[4].Params[0].T = rec("K.R") }, api.ErrName},
		{"parameter's words", func(m *api.Module) { m.Procs[4].Params[0].T = big }, wrong},
		{"array as a value", func(m *api.Module) { m.Procs[1].Params[0].T = array(2, integer) }, api.ErrType},
		{"array as a value that nobody uses", func(m *api.Module) { m.Procs[0].Params = []api.Param{{Name: "a", T: array(2, integer)}} }, api.ErrType},
		{"record as a result that is returned", func(m *api.Module) {
			m.Procs[0].Result, m.Procs[0].Ret = rec("M.V"), []api.Expr{name("M.v", rec("M.V"))}
		}, api.ErrType},
		{"pointer as a result that is returned", func(m *api.Module) {
			m.Procs[0].Result, m.Procs[0].Ret = ptr("M.V"), []api.Expr{name("M.vp", ptr("M.V"))}
		}, api.OK},
		{"record as a value", func(m *api.Module) { m.Procs[1].Params[0].T = rec("M.V") }, api.ErrType},
		{"nil as a value", func(m *api.Module) { m.Procs[0].Params = []api.Param{{Name: "a", T: api.Type{Form: api.Nil}}} }, api.ErrType},
		{"record as a result", func(m *api.Module) { m.Procs[0].Result = rec("M.V") }, api.ErrType},
		{"none, with a name", func(m *api.Module) { m.Procs[0].Result.Name = "x" }, api.ErrType},
		{"hidden result", func(m *api.Module) { m.Procs[4].Result = ptr("N.H") }, wrong},
	})
}

// P17.2: words of frames and of variables, at their limits and one past them.
func TestWords(t *testing.T) {
	m := api.Module{Name: "M", Procs: []api.Proc{{Name: "p", Params: []api.Param{{Name: "a", T: integer}, {Name: "b", Ref: true, T: array(1000, integer)}}, Locals: []api.Var{{Name: "c", T: array(1023, integer)}, {Name: "d", T: array(1023, char)}}}}}
	want(t, "frame", m, api.OK)
	m.Procs[0].Locals = append(m.Procs[0].Locals, api.Var{Name: "e", T: boolean})
	want(t, "frame and one", m, api.ErrType)
	m.Procs[0].Locals[2].T = rec("M.R")
	m.Recs = []api.Rec{{Name: "R"}}
	want(t, "frame and nothing", m, api.OK)
	m = api.Module{Name: "M", Vars: []api.Var{{Name: "a", T: array(16, array(1023, integer))}, {Name: "b", T: array(16, ptr("M.R"))}}, Recs: []api.Rec{{Name: "R"}}}
	want(t, "variables", m, api.OK)
	m.Vars = append(m.Vars, api.Var{Name: "c", T: rec("M.R")})
	want(t, "variables and nothing", m, api.OK)
	m.Vars[2].T = set
	want(t, "variables and one", m, api.ErrType)
}

// P17.2: constants.
func TestConstants(t *testing.T) {
	for _, x := range []struct {
		e   api.Expr
		err api.Errno
	}{
		{num(-1 << 31), api.OK}, {lit(char, 0), api.OK}, {lit(char, 255), api.OK}, {lit(boolean, 1), api.OK}, {lit(boolean, 0), api.OK}, {lit(set, -1), api.OK}, {str(""), api.OK}, {str(strings.Repeat("x", 120)), api.OK}, {str(" \x7f\x80\xff"), api.OK},
		{lit(char, 256), wrong}, {lit(char, -1), wrong}, {lit(boolean, 2), wrong}, {lit(boolean, -1), wrong}, {null(), wrong}, {str("\x1f"), wrong}, {str("a\"b"), wrong}, {str(strings.Repeat("x", 121)), api.ErrLimit},
		{api.Expr{}, wrong}, {lit(api.Type{Form: api.Array}, 0), wrong}, {lit(ptr("M.V"), 0), wrong}, {lit(api.Type{Form: 99}, 0), wrong},
		{lit(api.Type{Form: api.Int, N: 1}, 0), wrong}, {lit(api.Type{Form: api.Int, Of: []api.Type{integer}}, 0), wrong}, {api.Expr{T: integer, S: "x"}, wrong}, {api.Expr{T: integer, X: []api.Expr{num(1)}}, wrong}, {api.Expr{T: api.Type{Form: api.Str}, I: 1}, wrong},
		{op(api.Add, integer, num(1), num(2)), wrong}, {name("M.i", integer), wrong},
	} {
		m := with(t, "")
		m.Consts[0].E = x.e
		want(t, "constant", m, x.err)
	}
}

// P17.2: what is returned.
func TestReturns(t *testing.T) {
	try(t, "", []change{
		{"without", func(m *api.Module) { m.Procs[2].Ret = nil }, wrong},
		{"two", func(m *api.Module) { m.Procs[2].Ret = []api.Expr{num(1), num(2)} }, wrong},
		{"another type", func(m *api.Module) { m.Procs[2].Ret[0] = lit(char, 3) }, wrong},
		{"of none", func(m *api.Module) { m.Procs[0].Ret = []api.Expr{num(1)} }, wrong},
		{"wrong one", func(m *api.Module) { m.Procs[2].Ret[0] = name("nothing", integer) }, wrong},
		{"another variable", func(m *api.Module) { m.Procs[2].Ret[0] = name("M.i", integer) }, api.OK},
		{"another procedure's variable", func(m *api.Module) { m.Procs[2].Ret[0] = name("loc", integer) }, wrong},
		{"NIL", func(m *api.Module) { m.Procs[4].Ret[0] = null() }, api.OK},
		{"an extension", func(m *api.Module) { m.Procs[4].Ret[0] = name("M.up", ptr("M.U")) }, api.OK},
		{"no extension", func(m *api.Module) { m.Procs[4].Ret[0] = name("M.vp", ptr("M.V")) }, wrong},
		{"a string", func(m *api.Module) { m.Procs[3].Ret[0] = str("x") }, wrong},
	})
}

// P17.5: whatever mods are, Check ends and tells an error or none.
func TestStrangers(t *testing.T) {
	m := with(t, "i := N.arr[1]; N.g; p := N.p; i := N.f(i, c); N.p.a := 2")
	odd := api.Type{Form: api.Array, N: 3}
	for _, k := range []api.Module{
		{}, {Name: "N"}, {Name: "N", Vars: []api.Var{{Name: "arr", Export: true, T: odd}}},
		{Name: "N", Recs: []api.Rec{{Name: "R", Export: true, Base: "N.B"}, {Name: "B", Export: true, Base: "N.R"}}},
		{Name: "N", Recs: []api.Rec{{Name: "B", Export: true, Fields: []api.Var{{Name: "x", T: rec("N.B")}}}}},
	} {
		if err := Check(m, k); err == api.OK {
			t.Errorf("%v is right", k)
		}
	}
	m = api.Module{Name: "M", Imports: []string{"N"}, Body: []api.Stmt{{Op: api.Assign, X: []api.Expr{op(api.Index, integer, name("N.a", odd), num(0)), num(1)}}}}
	if err := Check(m, api.Module{Name: "N", Vars: []api.Var{{Name: "a", Export: true, T: odd}}}); err == api.OK {
		t.Error("right")
	}
}
