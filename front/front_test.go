package front

import (
	"math"
	"math/rand"
	"reflect"
	"slices"
	"strings"
	"testing"

	"wafer/api"
	"wafer/print"
	"wafer/scan"
	"wafer/tree"
)

// other is a module that the tests' modules import; third one that it imports.
const (
	third = `MODULE K;
TYPE R* = RECORD k: INTEGER END;
END K.`
	other = `MODULE N; IMPORT K;
CONST k* = 5; s* = "x"; word* = "word"; hidden = 3;
TYPE R* = RECORD a, b: INTEGER; next: POINTER TO R END; P* = POINTER TO R; H = RECORD h: INTEGER END; HP* = POINTER TO H; HA* = ARRAY 2 OF H;
  B* = RECORD (R) c: CHAR END; BP* = POINTER TO B; A* = ARRAY 3 OF ARRAY 4 OF P; Q* = R; KP* = POINTER TO K.R; KQ* = K.R; HQ* = H; HB = RECORD (R) END; HBQ* = HB; Z* = RECORD (H) z: INTEGER END; I* = INTEGER;
VAR v*, w: INTEGER; p*: P; hp*: HP; kp*: KP; arr*: A; r*: R; z*: POINTER TO Z;
PROCEDURE f*(x: INTEGER; VAR y: CHAR): INTEGER; BEGIN y := "a" RETURN x * 2 + 1 END f;
PROCEDURE q*; BEGIN v := v + w END q;
PROCEDURE make*(): BP; VAR b: BP; BEGIN NEW(b); b.a := 3; b.c := 41X RETURN b END make;
PROCEDURE own(); END own;
END N.`
)

// declared is what the tests' module declares.
const declared = `MODULE M; IMPORT In, N, Out;
CONST three = 3; letter = "a"; letter2 = "A"; hello = "hello"; all = {0 .. 31}; yes = TRUE; x41 = 41X; nine* = 9;
TYPE V = RECORD x: INTEGER; c: CHAR END; U* = RECORD (N.B) d: ARRAY 10 OF CHAR; u: POINTER TO V; w: POINTER TO W END; W = RECORD x: U END; UP* = POINTER TO U; T = ARRAY 4 OF ARRAY 5 OF INTEGER; VA = V; VP = POINTER TO V;
VAR i*, j: INTEGER; c, e: CHAR; b, o: BOOLEAN; s, r: SET; t, t2: T; u: U; v, v2: V; up: UP; text: ARRAY 6 OF CHAR; text2: ARRAY 7 OF CHAR; p: N.P; vp: VP; In2: INTEGER;
PROCEDURE proc; END proc;
PROCEDURE proc2(a: INTEGER; VAR ref: CHAR); VAR loc: INTEGER; BEGIN loc := a; ref := "x" END proc2;
PROCEDURE fun(): INTEGER; RETURN 7 END fun;
PROCEDURE fun2(ch: CHAR; ptr: N.P): CHAR; RETURN ch END fun2;
PROCEDURE fun3(VAR arr: T; VAR rec: V; VAR ptr: N.P): N.P; BEGIN ptr := ptr RETURN ptr END fun3;
PROCEDURE fun4(up1: UP): UP; RETURN up1 END fun4;
`

// with tells a module that does these statements.
func with(stmts string) string { return declared + "BEGIN " + stmts + " END M." }

// declares tells a module of these declarations.
func declares(s string) string { return "MODULE M; IMPORT In, N, Out; " + s + " END M." }

// mods are the modules that may be imported.
func mods(t *testing.T) []api.Module {
	t.Helper()
	k := right(t, third)
	return []api.Module{right(t, other, k), k}
}

// right compiles a source that has no faults.
func right(t *testing.T, src string, mods ...api.Module) api.Module {
	t.Helper()
	m, diags := Compile(src, mods...)
	if len(diags) != 0 {
		at := diags[0].Pos
		t.Fatalf("%v ahead of %.40q in\n%s", diags, src[at:], src)
	}
	return m
}

// wrong checks that a source has a fault, which is that (0: any).
func wrong(t *testing.T, src string, want api.Errno, mods ...api.Module) {
	t.Helper()
	m, diags := Compile(src, mods...)
	if len(diags) != 1 || diags[0].Pos < 0 || diags[0].Pos > len(src) || !reflect.DeepEqual(m, api.Module{}) {
		t.Errorf("%v, %v of\n%s", diags, m.Name, src)
		return
	}
	if got := diags[0].Err; want != 0 && got != want || !slices.Contains([]api.Errno{api.ErrLex, api.ErrSyntax, api.ErrName, api.ErrType, api.ErrLimit, api.ErrImport}, got) {
		t.Errorf("%v, want %v, ahead of %.40q of\n%.3000s", got, want, src[diags[0].Pos:], src[max(0, len(src)-300):])
	}
}

// Trees, as the tests write them.

var (
	integer = api.Type{Form: api.Int}
	char    = api.Type{Form: api.Char}
	boolean = api.Type{Form: api.Bool}
	set     = api.Type{Form: api.Set}
	none    = api.Type{}
)

func rec(name string) api.Type { return api.Type{Form: api.Record, Name: name} }
func ptr(name string) api.Type { return api.Type{Form: api.Pointer, Name: name} }
func arr(n int, t api.Type) api.Type {
	return api.Type{Form: api.Array, N: n, Of: []api.Type{t}}
}
func lit(t api.Type, i int32) api.Expr             { return api.Expr{Op: api.Lit, T: t, I: i} }
func num(i int32) api.Expr                         { return lit(integer, i) }
func str(s string) api.Expr                        { return api.Expr{Op: api.Lit, T: api.Type{Form: api.Str}, S: s} }
func name(t api.Type, s string) api.Expr           { return api.Expr{Op: api.Name, T: t, S: s} }
func op(o int, t api.Type, x ...api.Expr) api.Expr { return api.Expr{Op: o, T: t, X: x} }
func opS(o int, t api.Type, s string, x ...api.Expr) api.Expr {
	return api.Expr{Op: o, T: t, S: s, X: x}
}

var (
	null = lit(api.Type{Form: api.Nil}, 0)
	i    = name(integer, "M.i")
	j    = name(integer, "M.j")
	c    = name(char, "M.c")
	b    = name(boolean, "M.b")
	o    = name(boolean, "M.o")
	s    = name(set, "M.s")
	p    = name(ptr("N.R"), "M.p")
	u    = name(rec("M.U"), "M.u")
	up   = name(ptr("M.U"), "M.up")
	v    = name(rec("M.V"), "M.v")
	text = name(arr(6, char), "M.text")
	typT = arr(4, arr(5, integer))
	t1   = name(typT, "M.t")
)

// P16.5: expressions of INTEGER, CHAR, BOOLEAN, SET.
func TestExpr(t *testing.T) {
	known := mods(t)
	upA := opS(api.Field, integer, "a", op(api.Deref, rec("M.U"), up))
	for _, x := range []struct {
		to, src string
		want    api.Expr
	}{
		{"i", "5", num(5)}, {"i", "0FFH", num(255)}, {"i", "-5", num(-5)}, {"i", "+5", num(5)}, {"i", "80000000H", num(math.MinInt32)}, {"i", "three", num(3)}, {"i", "N.k", num(5)}, {"i", "nine", num(9)},
		{"c", "41X", lit(char, 65)}, {"c", `"a"`, lit(char, 97)}, {"c", "letter", lit(char, 97)}, {"c", "N.s", lit(char, 120)}, {"c", `("a")`, lit(char, 97)}, {"c", "x41", lit(char, 65)}, {"c", "\"\xff\"", lit(char, 255)},
		{"b", "TRUE", lit(boolean, 1)}, {"b", "FALSE", lit(boolean, 0)}, {"b", "yes", lit(boolean, 1)}, {"s", "{}", lit(set, 0)}, {"s", "all", lit(set, -1)}, {"s", "{1, 3 .. 5}", lit(set, 58)}, {"p", "NIL", null},
		{"i", "1 + 2 * 3", num(7)}, {"i", "(1 + 2) * 3", num(9)}, {"i", "7 DIV 2 - 7 MOD 4", num(0)}, {"i", "-7 DIV 2", num(-3)}, {"i", "(-7) DIV 2", num(-4)},
		{"i", "i + j", op(api.Add, integer, i, j)}, {"i", "i - j - 1", op(api.Sub, integer, op(api.Sub, integer, i, j), num(1))}, {"i", "i - (j - 1)", op(api.Sub, integer, i, op(api.Sub, integer, j, num(1)))},
		{"i", "-i + j", op(api.Add, integer, op(api.Neg, integer, i), j)}, {"i", "-i * j", op(api.Neg, integer, op(api.Mul, integer, i, j))}, {"i", "+i", i}, {"i", "i * j DIV i MOD 3", op(api.Mod, integer, op(api.Div, integer, op(api.Mul, integer, i, j), i), num(3))},
		{"i", "i + 1 + 2", op(api.Add, integer, op(api.Add, integer, i, num(1)), num(2))}, {"i", "i DIV 0", op(api.Div, integer, i, num(0))}, {"i", "((i))", i},
		{"s", "s + {i}", op(api.Add, set, s, op(api.SetOf, set, op(api.One, none, i)))}, {"s", "-s", op(api.Neg, set, s)}, {"s", "s * all / {1} - s", op(api.Sub, set, op(api.Div, set, op(api.Mul, set, s, lit(set, -1)), lit(set, 2)), s)},
		{"s", "{i .. j + 1, 3, 4 .. i}", op(api.SetOf, set, op(api.Span, none, i, op(api.Add, integer, j, num(1))), op(api.One, none, num(3)), op(api.Span, none, num(4), i))}, {"s", "{40, i}", op(api.SetOf, set, op(api.One, none, num(40)), op(api.One, none, i))},
		{"b", "b OR o & ~b", op(api.Or, boolean, b, op(api.And, boolean, o, op(api.Not, boolean, b)))}, {"b", "~(b OR o)", op(api.Not, boolean, op(api.Or, boolean, b, o))}, {"b", "~~b", op(api.Not, boolean, op(api.Not, boolean, b))},
		{"b", "i = j", op(api.Eq, boolean, i, j)}, {"b", "i # 3", op(api.Ne, boolean, i, num(3))}, {"b", "i < j", op(api.Lt, boolean, i, j)}, {"b", "i <= j", op(api.Le, boolean, i, j)}, {"b", "i > j", op(api.Gt, boolean, i, j)}, {"b", "i >= j", op(api.Ge, boolean, i, j)},
		{"b", "(i < j) = (b # o)", op(api.Eq, boolean, op(api.Lt, boolean, i, j), op(api.Ne, boolean, b, o))}, {"b", "i IN s", op(api.In, boolean, i, s)}, {"b", "3 IN {3}", lit(boolean, 1)}, {"b", "s = {}", op(api.Eq, boolean, s, lit(set, 0))}, {"b", "1 < 2", lit(boolean, 1)},
		{"b", `c = "a"`, op(api.Eq, boolean, c, lit(char, 97))}, {"b", `"a" <= c`, op(api.Le, boolean, lit(char, 97), c)}, {"b", `letter # c`, op(api.Ne, boolean, lit(char, 97), c)}, {"b", `"a" = 61X`, lit(boolean, 1)}, {"b", "c > e", op(api.Gt, boolean, c, name(char, "M.e"))},
		{"b", "NIL = NIL", op(api.Eq, boolean, null, null)}, {"b", "p = NIL", op(api.Eq, boolean, p, null)}, {"b", "NIL # up", op(api.Ne, boolean, null, up)}, {"b", "p = up", op(api.Eq, boolean, p, up)}, {"b", "up = p", op(api.Eq, boolean, up, p)},
		{"b", "p IS N.B", opS(api.Is, boolean, "N.B", p)}, {"b", "p IS U", opS(api.Is, boolean, "M.U", p)}, {"b", "p IS N.R", opS(api.Is, boolean, "N.R", p)}, {"b", "p IS N.Q", opS(api.Is, boolean, "N.R", p)}, {"b", "fun4(up) IS U", opS(api.Is, boolean, "M.U", opS(api.Call, ptr("M.U"), "M.fun4", up))},
		{"i", "ABS(i)", op(api.Abs, integer, i)}, {"i", "ABS(-3)", num(3)}, {"b", "ODD(i)", op(api.Odd, boolean, i)}, {"b", "ODD(3)", lit(boolean, 1)}, {"i", "LSL(i, 2)", op(api.Lsl, integer, i, num(2))}, {"i", "ASR(i, j)", op(api.Asr, integer, i, j)}, {"i", "ROR(1, 1)", num(math.MinInt32)},
		{"i", "ORD(c)", op(api.Ord, integer, c)}, {"i", "ORD(b)", op(api.Ord, integer, b)}, {"i", "ORD(s)", op(api.Ord, integer, s)}, {"i", "ORD(41X)", num(65)}, {"i", "ORD({0})", num(1)}, {"i", "ORD(\"a\")", num(97)}, {"i", "ORD(letter) + i", op(api.Add, integer, num(97), i)}, {"c", "CHR(i)", op(api.Chr, char, i)}, {"c", "CHR(66)", lit(char, 66)},
		{"i", "LEN(t)", num(4)}, {"i", "LEN(t[i])", num(5)}, {"i", "LEN((text))", num(6)}, {"i", "LEN(N.arr[1])", num(4)}, {"i", "LEN(up.d)", num(10)}, {"b", "In.Eof()", op(api.Eof, boolean)}, {"b", "In.Eof ( ) OR b", op(api.Or, boolean, op(api.Eof, boolean), b)},
		{"i", "fun()", opS(api.Call, integer, "M.fun")}, {"c", `fun2("a", NIL)`, opS(api.Call, char, "M.fun2", lit(char, 97), null)}, {"c", "fun2(c, up)", opS(api.Call, char, "M.fun2", c, up)}, {"p", "fun3(t, (v), up.next)", api.Expr{}},
		{"i", "N.f(i, text[2])", opS(api.Call, integer, "N.f", i, op(api.Index, char, text, num(2)))}, {"p", "N.make()", opS(api.Call, ptr("N.B"), "N.make")}, {"i", "N.v", name(integer, "N.v")},
		{"i", "t[i][j]", op(api.Index, integer, op(api.Index, arr(5, integer), t1, i), j)}, {"i", "t[i, 4]", op(api.Index, integer, op(api.Index, arr(5, integer), t1, i), num(4))}, {"i", "t[3, 0]", op(api.Index, integer, op(api.Index, arr(5, integer), t1, num(3)), num(0))},
		{"i", "v.x", opS(api.Field, integer, "x", v)}, {"i", "u.a", opS(api.Field, integer, "a", u)}, {"i", "up.a", upA}, {"i", "up^.a", upA}, {"c", "u.d[i]", op(api.Index, char, opS(api.Field, arr(10, char), "d", u), i)},
		{"c", "p(N.B).c", opS(api.Field, char, "c", op(api.Deref, rec("N.B"), opS(api.Guard, ptr("N.B"), "N.B", p)))}, {"c", "p(U)^.d[1]", op(api.Index, char, opS(api.Field, arr(10, char), "d", op(api.Deref, rec("M.U"), opS(api.Guard, ptr("M.U"), "M.U", p))), num(1))},
		{"up", "p(U)", opS(api.Guard, ptr("M.U"), "M.U", p)}, {"p", "p(N.Q)", opS(api.Guard, ptr("N.R"), "N.R", p)}, {"v", "u.u^", op(api.Deref, rec("M.V"), opS(api.Field, ptr("M.V"), "u", u))}, {"i", "N.p.next.next.b", api.Expr{}}, {"i", "N.kp.k", api.Expr{}}, {"i", "N.hp.h", api.Expr{}}, {"i", "N.z.h", api.Expr{}},
		{"text", `"hello"`, str("hello")}, {"text", `""`, str("")}, {"text", `"a"`, str("a")}, {"text", "hello", str("hello")}, {"text", "text", text}, {"v", "v2", name(rec("M.V"), "M.v2")}, {"t", "t2", name(typT, "M.t2")}, {"p", "up", up},
	} {
		m := right(t, with(x.to+" := "+x.src), known...)
		if len(m.Body) != 1 || m.Body[0].Op != api.Assign || len(m.Body[0].X) != 2 {
			t.Errorf("%s: %+v", x.src, m.Body)
			continue
		}
		again(t, m, known)
		if got := m.Body[0].X[1]; !tree.SameExpr(got, x.want) && !reflect.DeepEqual(x.want, api.Expr{}) {
			t.Errorf("%s: %+v, want %+v", x.src, got, x.want)
		}
	}
}

// P16.6, P16.7: statements.
func TestStmt(t *testing.T) {
	known := mods(t)
	st := func(o int, x ...api.Expr) api.Stmt { return api.Stmt{Op: o, X: x} }
	one := st(api.Assign, i, num(1))
	two := []api.Stmt{one, st(api.Assign, j, num(2))}
	call := func(s string, x ...api.Expr) api.Stmt { return st(api.Do, opS(api.Call, none, s, x...)) }
	for _, x := range []struct {
		src  string
		want []api.Stmt
	}{
		{"", nil}, {";;;", nil}, {"i := 1;", []api.Stmt{one}}, {";i := 1; ; j := 2", two},
		{"proc", []api.Stmt{call("M.proc")}}, {"proc()", []api.Stmt{call("M.proc")}}, {"proc2(1, c)", []api.Stmt{call("M.proc2", num(1), c)}}, {"N.q; N.q()", []api.Stmt{call("N.q"), call("N.q")}}, {"proc2(i, (text[1]))", []api.Stmt{call("M.proc2", i, op(api.Index, char, text, num(1)))}},
		{"IF b THEN i := 1 END", []api.Stmt{{Op: api.If, X: []api.Expr{b}, B: [][]api.Stmt{{one}}}}},
		{"IF b THEN i := 1; j := 2 ELSIF o THEN ELSIF i = 1 THEN i := 1 ELSE i := 1 END", []api.Stmt{{Op: api.If, X: []api.Expr{b, o, op(api.Eq, boolean, i, num(1))}, B: [][]api.Stmt{two, nil, {one}, {one}}}}},
		{"IF b THEN ELSE END", []api.Stmt{{Op: api.If, X: []api.Expr{b}, B: [][]api.Stmt{nil, nil}}}}, {"IF b THEN END", []api.Stmt{{Op: api.If, X: []api.Expr{b}, B: [][]api.Stmt{nil}}}},
		{"WHILE b DO i := 1 END", []api.Stmt{{Op: api.While, X: []api.Expr{b}, B: [][]api.Stmt{{one}}}}}, {"WHILE b DO i := 1 ELSIF o DO END", []api.Stmt{{Op: api.While, X: []api.Expr{b, o}, B: [][]api.Stmt{{one}, nil}}}},
		{"REPEAT i := 1; j := 2; UNTIL b", []api.Stmt{{Op: api.Repeat, X: []api.Expr{b}, B: [][]api.Stmt{two}}}}, {"REPEAT UNTIL TRUE", []api.Stmt{{Op: api.Repeat, X: []api.Expr{lit(boolean, 1)}, B: [][]api.Stmt{nil}}}},
		{"FOR i := 1 TO j DO j := 2 END", []api.Stmt{{Op: api.For, X: []api.Expr{i, num(1), j}, B: [][]api.Stmt{two[1:]}, I: []int32{1}}}}, {"FOR i := j TO 1 BY -three DO END", []api.Stmt{{Op: api.For, X: []api.Expr{i, j, num(1)}, B: [][]api.Stmt{nil}, I: []int32{-3}}}},
		{"CASE i OF END", []api.Stmt{st(api.Case, i)}}, {"CASE i OF | | END", []api.Stmt{st(api.Case, i)}},
		{"CASE i + 1 OF 1: i := 1 | 2, 4 .. 6: | -3 .. -1, three: i := 1; j := 2 END", []api.Stmt{{Op: api.Case, X: []api.Expr{op(api.Add, integer, i, num(1))}, B: [][]api.Stmt{{one}, nil, two}, I: []int32{1, 1, 0, 2, 2, 1, 4, 6, 1, -3, -1, 2, 3, 3, 2}}}},
		{"CASE c OF | 41X: i := 1 || 0X .. 40X, 42X .. 0FFX: END", []api.Stmt{{Op: api.Case, X: []api.Expr{c}, B: [][]api.Stmt{{one}, nil}, I: []int32{65, 65, 0, 0, 64, 1, 66, 255, 1}}}},
		{"INC(i); INC(i, j); DEC(t[1, 2]); DEC(i, -3)", []api.Stmt{st(api.Inc, i, num(1)), st(api.Inc, i, j), st(api.Dec, op(api.Index, integer, op(api.Index, arr(5, integer), t1, num(1)), num(2)), num(1)), st(api.Dec, i, num(-3))}},
		{"INCL(s, i); EXCL(s, 40)", []api.Stmt{st(api.Incl, s, i), st(api.Excl, s, num(40))}}, {"NEW(p); NEW(up)", []api.Stmt{st(api.New, p), st(api.New, up)}}, {"ASSERT(b)", []api.Stmt{st(api.Assert, b)}}, {"In.Char(c); In.Char((text[i]))", []api.Stmt{st(api.Read, c), st(api.Read, op(api.Index, char, text, i))}},
		{"CASE c OF \"a\" .. \"z\", letter2: END", []api.Stmt{{Op: api.Case, X: []api.Expr{c}, B: [][]api.Stmt{nil}, I: []int32{97, 122, 0, 65, 65, 0}}}}, {"Out.Char(\"a\"); Out.Char(N.s)", []api.Stmt{st(api.PutChar, lit(char, 97)), st(api.PutChar, lit(char, 120))}},
		{"Out.Int(i + 1); Out.Char(c); Out.Char(41X); Out.Ln; Out.Ln()", []api.Stmt{st(api.PutInt, op(api.Add, integer, i, num(1))), st(api.PutChar, c), st(api.PutChar, lit(char, 65)), st(api.PutLn), st(api.PutLn)}},
		{`Out.String("a"); Out.String(hello); Out.String(text); Out.String(u.d); Out.String("")`, []api.Stmt{st(api.PutStr, str("a")), st(api.PutStr, str("hello")), st(api.PutStr, text), st(api.PutStr, opS(api.Field, arr(10, char), "d", u)), st(api.PutStr, str(""))}},
		{"p^.a := 1; p.next := NIL; N.p.a := 1; N.p.next^.b := 2", nil}, {"p(N.B).c := 41X; p(U)^ := u; N.p(U).u^.x := 1", nil}, {"v := v2; t := t2; t[1] := t2[2]; text := text; u.u^ := v; vp^ := v", nil}, {"u.w.x.u.x := 3", nil}, {"N.p^ := N.r", nil},
	} {
		m := right(t, with(x.src), known...)
		again(t, m, known)
		if x.want == nil && strings.Contains(x.src, ":=") {
			continue
		}
		if !tree.SameBody(m.Body, x.want) {
			t.Errorf("%s: %+v, want %+v", x.src, m.Body, x.want)
		}
	}
}

// P16.3, P16.4: declarations, in order.
func TestDeclarations(t *testing.T) {
	m := right(t, `MODULE M; IMPORT Out, N, In;
CONST a* = 3; b = "text"; c = "x"; d* = {a}; e = 41X; f = ~(a = 3); g = N.word;
TYPE A* = ARRAY a OF CHAR; R = RECORD x, y: INTEGER; next: POINTER TO R; later: ARRAY 2 OF POINTER TO S; ; END; B = R; S* = RECORD (R) z: A; END; P* = POINTER TO S; E = RECORD END; X = RECORD (N.B) w: N.P; r: R END; I = INTEGER; NP = N.P; PB = POINTER TO B;
VAR x*, y, z*: I; p*: P; r: ARRAY 2 OF N.R;
PROCEDURE one; VAR l, k: SET; n: P; BEGIN l := k; one END one;
PROCEDURE two*(a1, b1: INTEGER; VAR c1: R; d1: NP): P; RETURN p END two;
PROCEDURE three*(): BOOLEAN; BEGIN RETURN FALSE END three;
BEGIN END M.`, mods(t)...)
	pv := func(name string, export bool, t api.Type) api.Var {
		return api.Var{Name: name, Export: export, T: t}
	}
	l := name(set, "l")
	want := api.Module{
		Name: "M", Imports: []string{"Out", "N", "In"},
		Consts: []api.Const{{Name: "a", Export: true, E: num(3)}, {Name: "b", E: str("text")}, {Name: "c", E: str("x")}, {Name: "d", Export: true, E: lit(set, 8)}, {Name: "e", E: lit(char, 65)}, {Name: "f", E: lit(boolean, 0)}, {Name: "g", E: str("word")}},
		Names:  []api.Var{pv("A", true, arr(3, char)), pv("B", false, rec("M.R")), pv("P", true, ptr("M.S")), pv("I", false, integer), pv("NP", false, ptr("N.R")), pv("PB", false, ptr("M.R"))},
		Recs: []api.Rec{
			{Name: "R", Fields: []api.Var{pv("x", false, integer), pv("y", false, integer), pv("next", false, ptr("M.R")), pv("later", false, arr(2, ptr("M.S")))}},
			{Name: "S", Export: true, Base: "M.R", Fields: []api.Var{pv("z", false, arr(3, char))}}, {Name: "E"}, {Name: "X", Base: "N.B", Fields: []api.Var{pv("w", false, ptr("N.R")), pv("r", false, rec("M.R"))}},
		},
		Vars: []api.Var{pv("x", true, integer), pv("y", false, integer), pv("z", true, integer), pv("p", true, ptr("M.S")), pv("r", false, arr(2, rec("N.R")))},
		Procs: []api.Proc{
			{Name: "one", Locals: []api.Var{pv("l", false, set), pv("k", false, set), pv("n", false, ptr("M.S"))}, Body: []api.Stmt{{Op: api.Assign, X: []api.Expr{l, name(set, "k")}}, {Op: api.Do, X: []api.Expr{opS(api.Call, none, "M.one")}}}},
			{Name: "two", Export: true, Params: []api.Param{{Name: "a1", T: integer}, {Name: "b1", T: integer}, {Name: "c1", Ref: true, T: rec("M.R")}, {Name: "d1", T: ptr("N.R")}}, Result: ptr("M.S"), Ret: []api.Expr{name(ptr("M.S"), "M.p")}},
			{Name: "three", Export: true, Result: boolean, Ret: []api.Expr{lit(boolean, 0)}},
		},
	}
	if !tree.Same(m, want) {
		t.Errorf("%+v\nwant %+v", m, want)
	}
	if m := right(t, "MODULE M; END M."); !tree.Same(m, api.Module{Name: "M"}) {
		t.Errorf("%+v", m)
	}
	if m := right(t, "MODULE M; CONST TYPE VAR BEGIN END M."); !tree.Same(m, api.Module{Name: "M"}) {
		t.Errorf("%+v", m)
	}
}

// P16.3: names that may be declared again, or that only look taken.
func TestNames(t *testing.T) {
	for _, s := range []string{
		"VAR M, N2: INTEGER; BEGIN M := 1", "TYPE R = RECORD M, N, R, x: INTEGER END; VAR x: R; BEGIN x.N := 1; x.R := 2; x.x := 3", "VAR inc, ABSX, integer: INTEGER;", "TYPE R = RECORD x: INTEGER END; Q = RECORD x: INTEGER END;",
		"PROCEDURE a(x: INTEGER); END a; PROCEDURE b(x: INTEGER); VAR a1: INTEGER; END b; PROCEDURE c(b1: INTEGER); END c;", "PROCEDURE a(b: INTEGER); BEGIN b := 1 END a; PROCEDURE b; END b;", "PROCEDURE a(); VAR later: INTEGER; BEGIN later := 1 END a; PROCEDURE later; END later;",
		"TYPE P = POINTER TO R; R = RECORD p: P END; PP = P;", "PROCEDURE p(a: INTEGER); VAR l: INTEGER; BEGIN FOR a := 1 TO 2 DO FOR l := a TO 3 DO END END END p;", "TYPE A = ARRAY 2 OF POINTER TO R; Q = RECORD a: A; b: POINTER TO Q; c: ARRAY 3 OF POINTER TO R END; R = RECORD q: Q END;", "TYPE P = POINTER TO N.R; R = RECORD (N.Q) END; B = RECORD (R) END;",
		"VAR p: N.P; q: N.A; i: N.I; h: POINTER TO N.Z; z: N.Z; BEGIN z.h := 1; z.z := 2", "VAR p: POINTER TO N.R; r: N.R; BEGIN p^ := r",
	} {
		again(t, right(t, declares(s), mods(t)...), mods(t))
	}
	// In and Out are names like others, where they aren't imported.
	m := right(t, "MODULE M; TYPE R = RECORD Char, Ln: INTEGER END; VAR In: R; Out: INTEGER; BEGIN In.Char := 1; Out := In.Ln END M.")
	if !tree.SameExpr(m.Body[0].X[0], opS(api.Field, integer, "Char", name(rec("M.R"), "M.In"))) {
		t.Errorf("%+v", m.Body)
	}
}

// P16.3: ErrName.
func TestErrName(t *testing.T) {
	known := mods(t)
	for _, s := range []string{
		"MODULE In; END In.", "MODULE Out; END Out.", "MODULE INTEGER; END INTEGER.", "MODULE ABS; END ABS.", "MODULE M; IMPORT In, In; END M.", "MODULE M; IMPORT N, In, N; END M.", "MODULE M; IMPORT N; VAR N: INTEGER; END M.", "MODULE M; IMPORT In; CONST In = 3; END M.",
		declares("VAR a, a: INTEGER;"), declares("CONST a = 1; VAR a: INTEGER;"), declares("CONST a = 1; a = 2;"), declares("TYPE a = INTEGER; a = CHAR;"), declares("TYPE a = RECORD END; a = RECORD END;"), declares("TYPE a = RECORD END; VAR a: INTEGER;"), declares("VAR a: INTEGER; PROCEDURE a; END a;"), declares("PROCEDURE a; END a; PROCEDURE a; END a;"),
		declares("VAR SET: INTEGER;"), declares("CONST LEN = 1;"), declares("TYPE INC = CHAR;"), declares("TYPE CHAR = RECORD END;"), declares("PROCEDURE ODD; END ODD;"), declares("PROCEDURE p(ASSERT: INTEGER); END p;"), declares("PROCEDURE p; VAR NEW: INTEGER; END p;"), declares("TYPE r = RECORD BOOLEAN: INTEGER END;"), declares("TYPE r = RECORD x, ORD: INTEGER END;"),
		declares("PROCEDURE p(p: INTEGER); END p;"), declares("PROCEDURE p(a, a: INTEGER); END p;"), declares("PROCEDURE p(a: INTEGER); VAR a: INTEGER; END p;"), declares("PROCEDURE p; VAR a, b, a: INTEGER; END p;"), declares("VAR a: INTEGER; PROCEDURE p(a: INTEGER); END p;"), declares("CONST a = 1; PROCEDURE p; VAR a: INTEGER; END p;"), declares("TYPE a = CHAR; PROCEDURE p(VAR a: INTEGER); END p;"), declares("PROCEDURE a; END a; PROCEDURE p(a: INTEGER); END p;"), declares("PROCEDURE p(N: INTEGER); END p;"), declares("PROCEDURE p; VAR Out: INTEGER; END p;"),
		declares("TYPE r = RECORD x, x: INTEGER END;"), declares("TYPE r = RECORD x: INTEGER; y, x: CHAR END;"), declares("TYPE r = RECORD x: INTEGER END; q = RECORD (r) x: CHAR END;"), declares("TYPE r = RECORD (N.R) a: INTEGER END;"), declares("TYPE r = RECORD (N.B) next: INTEGER END;"), declares("TYPE r = RECORD (N.Z) h: INTEGER END;"),
		declares("VAR x: y;"), declares("VAR x: N.y;"), declares("VAR x: N.H;"), declares("CONST a = b;"), declares("CONST a = a;"), declares("CONST a = b; b = 1;"), declares("CONST a = N.hidden;"), declares("CONST a = K.x;"), declares("TYPE a = a;"), declares("TYPE a = b; b = CHAR;"), declares("TYPE a = ARRAY 2 OF a;"), declares("TYPE r = RECORD x: r END;"), declares("TYPE r = RECORD x: q END; q = RECORD END;"), declares("TYPE r = RECORD (r) END;"), declares("TYPE r = RECORD (q) END; q = RECORD END;"),
		declares("TYPE p = POINTER TO r;"), declares("TYPE p = POINTER TO r; VAR r: INTEGER;"), declares("TYPE p = POINTER TO N.x;"), declares("TYPE p = POINTER TO N.H;"), declares("TYPE p = POINTER TO q; r = RECORD END; q = r;"), declares("TYPE p = POINTER TO q; q = CHAR;"), declares("VAR p: POINTER TO r;"), declares("TYPE t = CHAR; VAR p: POINTER TO r;"), declares("TYPE t = CHAR; PROCEDURE p(a: POINTER TO r); END p;"), declares("VAR r: N.R; p: POINTER TO r;"), declares("CONST r = 1; TYPE p = POINTER TO r;"), declares("TYPE a = RECORD (N.r) END;"), declares("TYPE a = RECORD (N.k) END;"), declares("CONST a = 1; VAR x: a;"), declares("VAR a: INTEGER; b: a;"), declares("PROCEDURE p(): N.v; RETURN 1 END p;"), declares("PROCEDURE p; END p; PROCEDURE q(a: p); END q;"), declares("TYPE a = ABS;"), declares("VAR x: In.Char;"), declares("PROCEDURE p(a: POINTER TO r); END p;"),
		// Records that a declaration may not name.
		declares("VAR p: N.HP;"), declares("VAR p: N.HA;"), declares("VAR p: N.KP;"), declares("TYPE p = N.HP;"), declares("TYPE r = RECORD p: ARRAY 2 OF N.KP END;"), declares("PROCEDURE p(a: N.HP); END p;"), declares("PROCEDURE p(): N.KP; RETURN NIL END p;"), declares("PROCEDURE p; VAR a: N.HA; END p;"), declares("PROCEDURE p(VAR a: N.HA); END p;"), declares("VAR p: K.R;"), declares("VAR p: N.HQ;"), declares("VAR p: N.KQ;"), declares("TYPE r = RECORD (N.HQ) END;"), declares("TYPE p = POINTER TO N.HQ;"), declares("TYPE p = POINTER TO N.KQ;"), with("p(N.HBQ) := NIL"), with("b := p IS N.HBQ"), with("b := p IS u"), with("i := T"), with("i := INTEGER"), with("i := N.I"), with("T := 1"), with("b := N.kp IS N.KQ"), declares("VAR p: POINTER TO K.R;"),
		with("b := N.kp IS K.R"), with("b := p IS N.H"), with("b := p IS nix"),
		with("nix := 1"), with("i := nix"), with("i := N.w"), with("i := N.nix"), with("N.own"), with("N.nix"), with("i := N.hidden"), with("K.x := 1"), with("i := M.i"), with("M.i := 1"), with("i := v.nix"), with("i := v.a"), with("i := up.nix"), with("i := p.c"), with("v.M := 1"), with("In.Int(i)"), with("Out.Eof"), with("b := In.Eof2()"), with("i := Out.nix"),
		with("FOR nix := 1 TO 2 DO END"), with("proc2(1, nix)"), with("FOR N := 1 TO 2 DO END"), with("i := a"), with("i := loc"), with("ref := \"a\""),
		"MODULE M; VAR c: CHAR; BEGIN In.Char(c) END M.", "MODULE M; BEGIN Out.Ln END M.", "MODULE M; IMPORT In; BEGIN Out.Ln END M.", "MODULE M; VAR b: BOOLEAN; BEGIN b := In.Eof() END M.", "MODULE M; BEGIN later END M.", declares("PROCEDURE a; BEGIN b END a; PROCEDURE b; END b;"), declares("PROCEDURE a; VAR x: INTEGER; END a; BEGIN x := 1"),
	} {
		wrong(t, s, api.ErrName, known...)
	}
}

// P16.2: ErrImport.
func TestErrImport(t *testing.T) {
	known := mods(t)
	for _, s := range []string{"MODULE M; IMPORT M; END M.", "MODULE M; IMPORT X; END M.", "MODULE M; IMPORT In, X; END M.", "MODULE N; IMPORT N; END N.", "MODULE M; IMPORT in; END M."} {
		wrong(t, s, api.ErrImport, known...)
	}
	wrong(t, "MODULE M; IMPORT N; END M.", api.ErrImport)
	wrong(t, "MODULE M; IMPORT M; END M.", api.ErrImport, api.Module{Name: "M"})
	right(t, "MODULE M; IMPORT K, N, Out, In; END M.", known...)
}

// P16.1, P16.3: one of src's own Name says nothing; of several the first counts.
func TestOfOneName(t *testing.T) {
	first := right(t, "MODULE A; CONST k* = 1; TYPE R* = RECORD x: INTEGER END; END A.")
	second := right(t, "MODULE A; CONST k* = 2; l* = 3; TYPE R* = RECORD y: INTEGER END; S* = RECORD END; END A.")
	own := right(t, "MODULE M; TYPE Q* = RECORD old: INTEGER END; END M.")
	m := right(t, "MODULE M; IMPORT A; CONST c = A.k; TYPE Q = RECORD z: INTEGER END; VAR q: Q; r: A.R; BEGIN q.z := 1; r.x := 2 END M.", own, first, second, own)
	if m.Consts[0].E.I != 1 {
		t.Errorf("%+v", m.Consts)
	}
	wrong(t, "MODULE M; IMPORT A; CONST c = A.l; END M.", api.ErrName, first, second)
	wrong(t, "MODULE M; IMPORT A; VAR r: A.S; END M.", api.ErrName, first, second)
	wrong(t, "MODULE M; IMPORT A; VAR r: A.R; BEGIN r.y := 1 END M.", api.ErrName, first, second)
	wrong(t, "MODULE M; VAR q: Q; END M.", api.ErrName, own)
	// Another's type that names a record of a module of src's Name.
	user := right(t, "MODULE A; IMPORT M; TYPE P* = POINTER TO M.Q; VAR p*: P; END A.", own)
	wrong(t, "MODULE M; IMPORT A; VAR p: A.P; END M.", api.ErrName, own, user)
	wrong(t, "MODULE M; IMPORT A; BEGIN A.p.old := 1 END M.", 0, own, user)
}

// P16.3 to P16.7: ErrType.
func TestErrType(t *testing.T) {
	known := mods(t)
	for _, s := range []string{
		declares("CONST a = NIL;"), declares("VAR i: INTEGER; c: CHAR;PROCEDURE p(): INTEGER; RETURN c END p;"), declares("CONST a = N.v;"), declares("CONST a = N.v + 1;"), declares("CONST a = N.make();"), declares("CONST a = {N.v};"), declares("CONST a = 1 DIV 0;"), declares("CONST a = 1 MOD 0;"), declares("CONST a = CHR(256);"), declares("CONST a = {32};"), declares("CONST a = {-1 .. 3};"),
		declares("TYPE a = ARRAY 0 OF CHAR;"), declares("TYPE a = ARRAY 1025 OF CHAR;"), declares("TYPE a = ARRAY -1 OF CHAR;"), declares("TYPE a = ARRAY 41X OF CHAR;"), declares("TYPE a = ARRAY TRUE OF CHAR;"), declares("TYPE a = ARRAY N.v OF CHAR;"), declares("TYPE a = ARRAY \"a\" OF CHAR;"), declares("TYPE a = POINTER TO INTEGER;"), declares("TYPE a = CHAR; b = POINTER TO a;"), declares("TYPE a = POINTER TO N.P;"), declares("TYPE a = RECORD (CHAR) END;"), declares("TYPE a = RECORD (N.P) END;"),
		declares("TYPE r = RECORD END; PROCEDURE p(a: r); END p;"), declares("PROCEDURE p(a: ARRAY 3 OF CHAR); END p;"), declares("PROCEDURE p(): ARRAY 3 OF CHAR; RETURN 1 END p;"), declares("TYPE r = RECORD END; VAR x: r; PROCEDURE p(): r; RETURN x END p;"), declares("PROCEDURE p(): INTEGER; RETURN TRUE END p;"), declares("PROCEDURE p(): CHAR; RETURN \"ab\" END p;"), declares("PROCEDURE p(): N.BP; RETURN N.p END p;"),
		with("i := c"), with("c := i"), with("i := TRUE"), with("i := s"), with("b := 1"), with("s := 1"), with("c := \"ab\""), with("c := \"\""), with("i := \"a\""), with("i := NIL"), with("text := NIL"), with("v := NIL"), with("up := p"), with("vp := p"), with("p := vp"), with("p := v"), with("v := u"), with("u := v"), with("text := text2"), with("text := \"abcdef\""), with("t := t[1]"), with("text := 41X"), with("text[0] := text"), with("t := \"a\""), with("p := p^"), with("v := vp"),
		with("three := 1"), with("N.v := 1"), with("N.arr[1, 1] := p"), with("N.r.a := 1"), with("N.p := p"), with("p(U) := up"), with("N.p(N.B) := p"), with("hello := \"a\""), with("fun := 1"), with("INC(N.v)"), with("NEW(N.p)"), with("INC(three)"), with("INC(i + 1)"), with("INC(3)"), with("NEW(p(U))"), with("proc2(1, N.v)"), with("i := N.f(1, x41)"),
		with("i := i + c"), with("i := c + c"), with("b := b + o"), with("i := i + s"), with("s := s + i"), with("s := s + 1"), with("i := i / j"), with("s := s DIV s"), with("s := s MOD s"), with("b := b * o"), with("i := i & j"), with("b := b & 1"), with("b := i OR j"), with("b := b OR s"), with("b := ~i"), with("s := ~s"), with("s := +s"), with("b := -b"), with("c := -c"), with("b := +b"), with("b := i = c"), with("b := b = i"), with("b := s = i"), with("b := b < o"), with("b := s <= r"), with("b := p < up"), with("b := i < c"), with("b := v = v2"), with("b := t = t2"), with("b := text = text"), with("b := text = \"a\""), with("b := \"a\" = \"a\""), with("b := \"ab\" = c"), with("b := p = vp"), with("b := p = i"), with("b := NIL = i"), with("b := i = NIL"), with("b := NIL < NIL"), with("b := s = NIL"),
		with("b := c IN s"), with("b := i IN i"), with("b := s IN s"), with("b := b IN s"), with("b := \"a\" IN s"), with("b := v IS V"), with("b := i IS V"), with("b := p IS V"), with("b := up IS N.R"), with("b := NIL IS V"), with("b := p IS INTEGER"), with("b := p IS UP"), with("b := p IS N.BP"), with("s := {c}"), with("s := {\"a\"}"), with("s := {1 .. c}"), with("s := {TRUE .. 3}"), with("s := {s}"), with("s := {32}"), with("s := {1, 2 .. 32}"), with("i := 1 DIV (3 - 3)"), with("i := 7 MOD (-0)"),
		with("i := ABS(c)"), with("i := ABS(s)"), with("b := ODD(b)"), with("i := LSL(i)"), with("i := LSL(i, c)"), with("i := ASR(c, i)"), with("i := ROR(i, i, i)"), with("i := ORD(i)"), with("i := ORD(NIL)"), with("i := ORD(\"ab\")"), with("i := ORD(text)"), with("c := CHR(c)"), with("c := CHR(-1)"), with("i := LEN(i)"), with("i := LEN(\"abc\")"), with("i := LEN(v)"), with("i := LEN(t, 1)"), with("i := LEN(hello)"), with("i := ABS()"), with("i := ABS(1, 2)"), with("b := In.Eof(1)"), with("i := ODD(3)"),
		with("i := t[1]"), with("i := i[1]"), with("i := v[1]"), with("i := t[c, 1]"), with("i := t[4, 1]"), with("i := t[1, 5]"), with("i := t[-1, 0]"), with("i := t[1, 1, 1]"), with("i := i^"), with("i := v^"), with("i := t^"), with("i := i.x"), with("i := t.x"), with("i := up^^.a"), with("i := text[TRUE]"), with("c := text[6]"), with("c := text[three + 3]"), with("i := LEN(t[4])"),
		with("i := fun2(c, p)"), with("c := fun2(i, p)"), with("c := fun2(c, vp)"), with("c := fun2(c)"), with("c := fun2(c, p, p)"), with("c := fun2()"), with("i := fun(1)"), with("i := proc()"), with("proc(1)"), with("proc2"), with("proc2()"), with("proc2(1)"), with("proc2(1, c, c)"), with("proc2(c, c)"), with("proc2(1, i)"), with("proc2(1, \"a\")"), with("proc2(1, 41X)"), with("proc2(1, letter)"), with("proc2(\"a\", c)"), with("c := fun2(\"ab\", p)"), with("fun"), with("fun()"), with("fun2(c, p)"), with("N.make()"), with("N.f(1, c)"), with("i := N.q()"),
		with("p := fun3(t, v, up)"), with("p := fun3(t, u, p)"), with("p := fun3(t[1], v, p)"), with("p := fun3(t, v, p(N.R))"), with("p := fun3(t, v, NIL)"), with("p := fun3(t, v, N.p)"), with("up := fun4(p)"),
		with("i(j)"), with("p(u) := NIL"), with("p(N.r) := NIL"), with("p(3) := NIL"), with("p() := NIL"), with("i := i[j]"), with("i := v[j]"), with("c := p[j]"), with("i()"), with("v()"), with("i := i(1)"), with("i := v(V)"), with("b := p(V) = NIL"), with("p(nix) := NIL"), with("b := up(N.R) = NIL"), with("i := INC(i)"), with("ABS(i)"), with("i := Out.Ln()"), with("In.Eof()"),
		with("INC(c)"), with("INC(i, c)"), with("INC(i, 1, 2)"), with("DEC()"), with("DEC(s)"), with("INCL(i, 1)"), with("INCL(s)"), with("INCL(s, c)"), with("EXCL(s, s)"), with("EXCL(all, 1)"), with("NEW(v)"), with("NEW(i)"), with("NEW(NIL)"), with("NEW(p, p)"), with("ASSERT(i)"), with("ASSERT(b, 1)"), with("ASSERT()"), with("In.Char(i)"), with("In.Char(41X)"), with("In.Char(text)"), with("In.Char()"), with("Out.Int(c)"), with("Out.Int(i, 1)"), with("Out.Int()"), with("Out.Char(i)"), with("Out.Char(\"ab\")"), with("Out.Char(text)"), with("Out.String(c)"), with("Out.String(41X)"), with("Out.String(t)"), with("Out.String(v)"), with("Out.String()"), with("Out.Ln(1)"),
		with("IF i THEN END"), with("IF b THEN ELSIF i THEN END"), with("WHILE 1 DO END"), with("WHILE b DO ELSIF c DO END"), with("REPEAT UNTIL i"), with("FOR c := 41X TO 42X DO END"), with("FOR i := c TO 1 DO END"), with("FOR i := 1 TO b DO END"), with("FOR i := 1 TO 2 BY 0 DO END"), with("FOR i := 1 TO 2 BY j DO END"), with("FOR i := 1 TO 2 BY 41X DO END"), with("FOR p := 1 TO 2 DO END"), declares("PROCEDURE p(VAR x: INTEGER); BEGIN FOR x := 1 TO 2 DO END END p;"),
		with("CASE b OF END"), with("CASE s OF END"), with("CASE text OF END"), with("CASE p OF END"), with("CASE \"a\" OF END"), with("CASE i OF c: END"), with("CASE i OF 41X: END"), with("CASE c OF 65: END"), with("CASE i OF \"a\": END"), with("CASE c OF \"a\" .. \"bc\": END"), with("CASE c OF \"a\", 61X: END"), with("CASE c OF \"ab\": END"), with("CASE i OF j: END"), with("CASE i OF 3 .. 2: END"), with("CASE i OF 1, 1: END"), with("CASE i OF 1 .. 3, 5: | 2: END"), with("CASE i OF 5: | 1 .. 5: END"), with("CASE c OF 41X .. 43X: | 43X: END"), with("CASE i OF 1 .. 41X: END"), with("CASE i OF TRUE: END"), with("CASE i OF 1 .. j: END"),
	} {
		wrong(t, s, api.ErrType, known...)
	}
}

// P16.2, P16.4: ErrSyntax.
func TestErrSyntax(t *testing.T) {
	known := mods(t)
	for _, s := range []string{
		"", "MODULE", "MODULE M", "MODULE M;", "MODULE M; END", "MODULE M; END M", "MODULE M; END M;", "MODULE M; END M. x", "MODULE M; END M. END", "module M; END M.", "MODULE M END M.", "MODULE 1; END 1.", "MODULE M.x; END M.x.", "END M.", "MODULE IF; END IF.",
		"MODULE M; END N.", "MODULE M; END \"M\".", "MODULE M; IMPORT; END M.", "MODULE M; IMPORT In END M.", "MODULE M; IMPORT In,; END M.", "MODULE M; IMPORT In Out; END M.", "MODULE M; IMPORT N := In; END M.", "MODULE M; IMPORT In; IMPORT Out; END M.", "MODULE M; BEGIN END; END M.", "MODULE M; VAR x: INTEGER; CONST c = 1; END M.", "MODULE M; TYPE t = CHAR; CONST c = 1; END M.", "MODULE M; VAR x: INTEGER; VAR y: INTEGER; END M.", "MODULE M; PROCEDURE p; END p; VAR x: INTEGER; END M.",
		declares("CONST a = 1"), declares("CONST a 1;"), declares("CONST a := 1;"), declares("CONST = 1;"), declares("CONST a;"), declares("CONST a, b = 1;"), declares("TYPE a: CHAR;"), declares("TYPE a = ;"), declares("TYPE a = ARRAY OF CHAR;"), declares("TYPE a = ARRAY 3 CHAR;"), declares("TYPE a = ARRAY 3, 4 OF CHAR;"), declares("TYPE a = POINTER N.R;"), declares("TYPE a = POINTER TO RECORD END;"), declares("TYPE a = ARRAY 3 OF RECORD END;"), declares("VAR a: RECORD END;"), declares("TYPE a = RECORD x: INTEGER;"), declares("TYPE a = RECORD x INTEGER END;"), declares("TYPE a = RECORD x: RECORD END END;"), declares("TYPE a = RECORD x*: INTEGER END;"), declares("TYPE a = RECORD (N.R x: INTEGER END;"), declares("TYPE a = RECORD () END;"), declares("TYPE a = RECORD x: INTEGER y: CHAR END;"), declares("TYPE a = N;"), declares("TYPE a = CHAR.x;"), declares("TYPE a = CHAR"),
		declares("VAR a INTEGER;"), declares("VAR a, : INTEGER;"), declares("VAR a: INTEGER"), declares("VAR a:;"), declares("VAR a b: INTEGER;"), declares("PROCEDURE; END;"), declares("PROCEDURE p END p;"), declares("PROCEDURE p; END;"), declares("PROCEDURE p; END q;"), declares("PROCEDURE p; END p"), declares("PROCEDURE p(; END p;"), declares("PROCEDURE p(a); END p;"), declares("PROCEDURE p(a: INTEGER; END p;"), declares("PROCEDURE p(a: INTEGER,); END p;"), declares("PROCEDURE p(a: INTEGER;); END p;"), declares("PROCEDURE p(VAR: INTEGER); END p;"), declares("PROCEDURE p(a*: INTEGER); END p;"), declares("PROCEDURE p: INTEGER; RETURN 1 END p;"), declares("PROCEDURE p(); VAR a*: INTEGER; END p;"), declares("PROCEDURE p; CONST a = 1; END p;"), declares("PROCEDURE p; PROCEDURE q; END q; END p;"),
		declares("PROCEDURE p(): INTEGER; END p;"), declares("PROCEDURE p(): INTEGER; BEGIN END p;"), declares("PROCEDURE p; RETURN 1 END p;"), declares("PROCEDURE p(); BEGIN RETURN 1 END p;"), declares("PROCEDURE p(); BEGIN RETURN END p;"), declares("PROCEDURE p(): INTEGER; RETURN END p;"), declares("PROCEDURE p(): INTEGER; BEGIN RETURN 1; END p;"), declares("PROCEDURE p(): INTEGER; BEGIN IF TRUE THEN RETURN 1 END END p;"), declares("RETURN 1"),
		with("i = 1"), with("i := "), with("i 1"), with("i"), with("v.x"), with("i := 1 j := 2"), with("i := 1 +"), with("i := * 2"), with("i := (1"), with("i := 1)"), with("b := 1 = 2 = 3"), with("i := -+1"), with("i := 1 * -2"), with("i := {1"), with("s := {1,}"), with("s := {1 2}"), with("s := {1 ..}"), with("i := t[1"), with("i := t[]"), with("i := t[1,]"), with("i := v."), with("i := v.1"), with("1 := i"), with("(i) := 1"), with("v := (v).x"), with("i := fun().x"), with("c := fun2(c,)"), with("c := fun2(c p)"), with("i := fun"), with("i := ABS"), with("i := ABS 1"), with("b := In.Eof"), with("i := N"), with("N := 1"), with("N.v"), with("NIL := 1"), with("i := .. 1"), with("b := p IS"), with("b := p IS 3"), with("b := IS V"), with("i := three.x"), with("i := three[1]"), with("INC i"), with("INC"), with("In.Char"), with("Out.Int"), with("b := ~"), with("b := b b"),
		with("IF b i := 1 END"), with("IF b THEN i := 1"), with("IF THEN END"), with("IF b THEN ELSE ELSIF b THEN END"), with("IF b THEN ELSE ELSE END"), with("WHILE b i := 1 END"), with("WHILE b DO ELSE END"), with("WHILE b DO"), with("REPEAT i := 1 END"), with("REPEAT UNTIL"), with("FOR i = 1 TO 2 DO END"), with("FOR i := 1 DO END"), with("FOR i := 1 TO 2 END"), with("FOR i := 1 TO 2 BY DO END"), with("FOR v.x := 1 TO 2 DO END"), with("FOR N.v := 1 TO 2 DO END"), with("FOR 1 := 1 TO 2 DO END"), with("CASE i 1: END"), with("CASE i OF 1 END"), with("CASE i OF 1, : END"), with("CASE i OF 1: ELSE END"), with("CASE i OF : END"), with("CASE i OF 1 .. : END"), with("CASE i OF 1: | "), with("END"), with("BEGIN"), with("UNTIL b"), with("|"), with("RETURN"), with("ELSE"),
	} {
		wrong(t, s, api.ErrSyntax, known...)
	}
}

// P16.1: faults of symbols, where all ahead is right.
func TestErrLex(t *testing.T) {
	for src, pos := range map[string]int{"MODULE M; END M. !": 17, "MODULE M; CONST a = 1A; END M.": 20, "MODULE M; (* END M.": 10, "!": 0, "MODULE M; CONST a = \"b; END M.": 20} {
		if _, diags := Compile(src); !slices.Equal(diags, []api.Diag{{Pos: pos, Err: api.ErrLex}}) {
			t.Errorf("%s: %v", src, diags)
		}
	}
	long := strings.Repeat("a", 33)
	for src, pos := range map[string]int{"MODULE " + long + "; END " + long + ".": 7, strings.Repeat(" ", 20001): 20000, "MODULE M; CONST a = \"" + strings.Repeat("b", 121) + "\"; END M.": 20} {
		if _, diags := Compile(src); !slices.Equal(diags, []api.Diag{{Pos: pos, Err: api.ErrLimit}}) {
			t.Errorf("%.50s: %v", src, diags)
		}
	}
	name := long[:32]
	right(t, "MODULE "+name+"; VAR "+name+": INTEGER; BEGIN "+name+" := 1 END "+name+".")
}

// rep repeats a text.
func rep(s string, n int) string { return strings.Repeat(s, n) }

// P16.4, P16.8: limits, at one and one past it.
func TestErrLimit(t *testing.T) {
	known := mods(t)
	for _, x := range []struct {
		name string
		src  func(n int) string
		most int
	}{
		{"( )", func(n int) string { return with("i := " + rep("(", n) + "j" + rep(")", n)) }, 64},
		{"( ) that aren't next to one another", func(n int) string { return with("i := " + rep("(ABS(", n) + "1" + rep("))", n)) }, 64},
		{"( ) round a string", func(n int) string { return with("c := " + rep("(", n) + "\"a\"" + rep(")", n)) }, 64},
		{"a sum", func(n int) string { return with("i := j" + rep(" + 1", n-1)) }, 64},
		{"a negation", func(n int) string { return with("b := " + rep("~", n-1) + "o") }, 64},
		{"a condition", func(n int) string { return with("IF " + rep("~", n-1) + "o THEN END") }, 64},
		{"fields", func(n int) string { return with("i := p" + rep(".next", (n-3)/2) + ".a" + rep(" + 1", 1-n%2)) }, 65 - 1},
		{"a result", func(n int) string {
			return declares("PROCEDURE p(x: INTEGER): INTEGER; RETURN x" + rep(" * 3", n-1) + " END p;")
		}, 64},
		{"an argument", func(n int) string { return with("proc2(j" + rep(" + 1", n-2) + ", c)") }, 64},
		{"statements in one another", func(n int) string { return with(rep("REPEAT ", n) + rep(" UNTIL b", n)) }, 64},
		{"a procedure's statements", func(n int) string {
			return declares("PROCEDURE p; BEGIN " + rep("WHILE TRUE DO ", n) + rep(" END", n) + " END p;")
		}, 64},
		{"types in one another", func(n int) string { return declares("VAR x: " + rep("ARRAY 1 OF ", n-1) + "CHAR;") }, 8},
		{"types by names", func(n int) string {
			return declares("TYPE a = ARRAY 1 OF ARRAY 1 OF ARRAY 1 OF CHAR; VAR x: " + rep("ARRAY 1 OF ", n-4) + "a;")
		}, 8},
		{"types of a parameter", func(n int) string {
			return declares("PROCEDURE p(VAR x: " + rep("ARRAY 1 OF ", n-1) + "CHAR); END p;")
		}, 8},
		{"statements", func(n int) string { return with(rep("i:=1;", n)) }, 1000},
		{"statements in a procedure", func(n int) string { return declares("PROCEDURE p; BEGIN " + rep("Out.Ln;", n) + " END p;") }, 1000},
		{"elements", func(n int) string { return with("s := {i" + rep(",i", n-1) + "}") }, 1000},
		{"conditions", func(n int) string { return with("IF b THEN " + rep("ELSIF b THEN ", n-1) + " END") }, 1000},
		{"branches", func(n int) string { return with("IF b THEN " + rep("ELSIF b THEN ", n-2) + " ELSE END") }, 1000},
		{"variables", func(n int) string { return declares("VAR " + names(n) + ": INTEGER;") }, 1000},
		{"locals", func(n int) string { return declares("PROCEDURE p; VAR " + names(n) + ": INTEGER; END p;") }, 1000},
		{"parameters", func(n int) string { return declares("PROCEDURE p(" + names(n) + ": INTEGER); END p;") }, 1000},
		{"fields of a record", func(n int) string { return declares("TYPE r = RECORD " + names(n) + ": INTEGER END;") }, 1000},
		{"ranges", func(n int) string {
			var l []string
			for k := range n {
				l = append(l, "-"+number(k))
			}
			return with("CASE i OF " + strings.Join(l, ",") + ": END")
		}, 333},
		{"words of variables", func(n int) string {
			return declares("VAR a: ARRAY 1024 OF ARRAY 15 OF INTEGER; b, c: CHAR; d: ARRAY " + number(n-15362) + " OF SET;")
		}, 16384},
		{"words of a type", func(n int) string { return declares("TYPE a = ARRAY 16 OF ARRAY " + number(n) + " OF INTEGER;") }, 1024},
		{"words of a record", func(n int) string {
			return declares("TYPE r = RECORD a: ARRAY 16 OF ARRAY 1023 OF INTEGER; b: ARRAY " + number(n) + " OF CHAR END;")
		}, 16},
		{"words of a base", func(n int) string {
			return declares("TYPE b = RECORD a: ARRAY 16 OF ARRAY 1023 OF INTEGER END; r = RECORD (b) b: ARRAY " + number(n) + " OF CHAR END;")
		}, 16},
		{"a procedure's words", func(n int) string {
			return declares("PROCEDURE p(x, y: INTEGER; VAR z: ARRAY 1024 OF CHAR); VAR a: ARRAY 1024 OF CHAR; b: ARRAY " + number(n-1027) + " OF CHAR; END p;")
		}, 2048},
	} {
		src := x.src(x.most)
		again(t, right(t, src, known...), known)
		if x.name != "words of a type" {
			wrong(t, x.src(x.most+1), api.ErrLimit, known...)
		}
	}
	wrong(t, declares("TYPE a = ARRAY 17 OF ARRAY 1024 OF INTEGER;"), api.ErrLimit, known...)
	wrong(t, declares("PROCEDURE p(VAR a: ARRAY 17 OF ARRAY 1024 OF INTEGER); END p;"), api.ErrLimit, known...)
	wrong(t, declares("PROCEDURE p; VAR a, b: ARRAY 1024 OF CHAR; c: CHAR; END p;"), api.ErrLimit, known...)
	right(t, declares("PROCEDURE p; VAR a, b: ARRAY 1024 OF CHAR; END p;"), known...)
	right(t, with(rep("i := (j);", 200)), known...)
}

// names tells n names with commas between.
func names(n int) string {
	var l []string
	for k := range n {
		l = append(l, "a"+number(k))
	}
	return strings.Join(l, ",")
}

// number tells digits.
func number(n int) string {
	if n < 10 {
		return string(rune('0' + n))
	}
	return number(n/10) + number(n%10)
}

// P16.8: what LEN looks at isn't in the tree.
func TestNotInTree(t *testing.T) {
	right(t, with("i := LEN(t[j"+rep(" + 1", 500)+"])"), mods(t)...)
	right(t, with("i := "+rep("1 + ", 2000)+"1"), mods(t)...)
}

// P16.1: sources that go deep end, soon.
func TestDeep(t *testing.T) {
	known := mods(t)
	room := api.MaxSource - len(with(""))
	for _, part := range []string{"(", "~", "-", "{", "t[", "ABS(", "IF b THEN ", "REPEAT ", "CASE i OF 1:", "WHILE b DO", "p.next", "up.w.x.", "1+", "p(N.R)", "p^", "fun2("} {
		for _, head := range []string{"i := ", "b := ", ""} {
			wrong(t, with(head+rep(part, (room-5)/len(part))), 0, known...)
		}
	}
	for _, part := range []string{"ARRAY 1 OF ", "POINTER TO ", "RECORD x: "} {
		wrong(t, declares("TYPE a = "+rep(part, 19000/len(part))), 0, known...)
	}
	wrong(t, with("i := j"+rep("+1", (room-10)/2)), api.ErrLimit, known...)
	wrong(t, with("b := p"+rep(".next", room/5-3)+" = NIL"), api.ErrLimit, known...)
}

// P16.1: a source that is cut off has a fault, wherever.
func TestCutOff(t *testing.T) {
	known := mods(t)
	src := with("p(N.B).c := \"a\"; IF p IS N.B THEN i := t[i, j] + fun() END; CASE c OF \"a\" .. \"z\": proc2(1, c) | 41X: N.q END; FOR i := 1 TO 2 BY 3 DO s := {1 .. i} END")
	again(t, right(t, src, known...), known)
	for n := range len(src) {
		wrong(t, src[:n], 0, known...)
	}
}

// P16.1: the answer is new memory, twice the same, and what is handed in isn't changed.
func TestNewMemory(t *testing.T) {
	known := mods(t)
	src := with("t := t2; p.next := N.p; c := fun2(letter, N.arr[1, 2])")
	old := []api.Module{tree.Clone(known[0]), tree.Clone(known[1])}
	m := right(t, src, known...)
	spoil(reflect.ValueOf(&m).Elem())
	if !tree.Same(known[0], old[0]) || !tree.Same(known[1], old[1]) {
		t.Error("shares with what is handed in")
	}
	a, b := right(t, src, known...), right(t, src, known...)
	if !tree.Same(a, b) {
		t.Error("another tree")
	}
	for k := range a.Vars {
		for _, of := range a.Vars[k].T.Of {
			spoil(reflect.ValueOf(&of).Elem())
		}
		if k > 0 && len(a.Vars[k].T.Of) > 0 {
			a.Vars[k].T.Of[0].Form = 77
		}
	}
	if !tree.SameBody(a.Body, b.Body) {
		t.Error("shares within")
	}
}

// spoil changes all numbers and texts in v.
func spoil(v reflect.Value) {
	switch v.Kind() {
	case reflect.Struct:
		for k := range v.NumField() {
			spoil(v.Field(k))
		}
	case reflect.Slice:
		for k := range v.Len() {
			spoil(v.Index(k))
		}
	case reflect.Int, reflect.Int32:
		v.SetInt(v.Int() + 99)
	case reflect.String:
		v.SetString(v.String() + "!")
	}
}

// again checks that a tree is typed (P16.9), and, printed and told again, the same (P15.1).
func again(t *testing.T, m api.Module, known []api.Module) {
	t.Helper()
	typed(t, m, known)
	src := print.Module(m)
	if len(src) > api.MaxSource {
		return
	}
	back, diags := Compile(src, known...)
	if len(diags) != 0 {
		t.Fatalf("%v ahead of %.30q of\n%s", diags, src[diags[0].Pos:], src)
	}
	if !tree.Same(back, m) {
		t.Fatalf("another one from\n%s", src)
	}
}

// P15.1, P15.2, P16.1, P16.9: sources with symbols that are taken out, put in, changed: a tree or a fault; of a tree its source tells it again.
func TestChanged(t *testing.T) {
	known := mods(t)
	chance := rand.New(rand.NewSource(161))
	const stmts = `i := a1 + 3 * (j - (-i)) DIV i MOD three; s := {i, 3, 4 .. j + 1} * all - s / r + {}; b := i IN s; b := p IS N.B; b := (p = up) OR (p # NIL) & ~(NIL = NIL) OR ("a" = c) & (c <= e);
c := "x"; text := "abcde"; text := hello; up.a := 3; up^.b := 4; p(N.B).c := "q"; p := N.make(); up := p(U); i := N.arr[1][2].a + N.arr[1, j].b; i := N.f(3, text[2]) + LEN(text) + LEN(N.arr[1]); v := u.u^; t := t2; t[1] := t2[i];
u.w.x.u.x := ABS(i) + ORD(b) + ORD(s) + ORD(c) + LSL(i, 2) - ASR(-i, j) * ROR(i, 3); c := CHR(i); b := ODD(i) OR In.Eof(); proc; proc(); N.q; proc2(i, (text[1])); c := fun2(c, up); p := fun3(t, v, p);
INC(i); INC(i, 2); DEC(u.a, j); INCL(s, i); EXCL(s, 3); NEW(up); ASSERT(i > 3); In.Char(c); In.Char(text[3]); Out.Int(i); Out.Char(c); Out.Char(41X); Out.String("a"); Out.String(hello); Out.String(text); Out.Ln; Out.Ln();
CASE i OF 1, 3 .. 5: i := 2 | | -7: | 8 .. 10: i := 3; j := 3 END; CASE c OF 41X: | 42X .. 50X: i := 3 END; IF b THEN i := 3 ELSIF i > 4 THEN ELSE END; WHILE b DO INC(i) ELSIF i < j DO DEC(i) END;
REPEAT INC(i) UNTIL i = 10; FOR i := 1 TO j BY -3 DO j := 3 END; FOR j := -1 TO 0 DO END; b := i # -1; i := -i * -(3); i := 80000000H`
	full := with(strings.ReplaceAll(strings.ReplaceAll(stmts, "a1 + ", ""), "-i * -(3)", "(-i) * (-3)"))
	again(t, right(t, full, known...), known)
	toks, _ := scan.All(full)
	words := map[int]int{}
	told := 0
	for n := range 12000 {
		var parts []string
		at := chance.Intn(len(toks) - 1)
		with := toks[chance.Intn(len(toks)-1)]
		how := chance.Intn(4)
		for k, x := range toks[:len(toks)-1] {
			text := full[x.Pos:x.End]
			if k != at {
				parts = append(parts, text)
				continue
			}
			switch how {
			case 0:
			case 1:
				parts = append(parts, text, full[with.Pos:with.End])
			default:
				parts = append(parts, full[with.Pos:with.End])
			}
		}
		src := strings.Join(parts, " ")
		m, diags := Compile(src, known...)
		if (len(diags) == 0) == (m.Name == "") || len(diags) > 1 || len(diags) == 1 && (diags[0].Pos < 0 || diags[0].Pos > len(src) || !reflect.DeepEqual(m, api.Module{})) {
			t.Fatalf("%d: %v, %s", n, diags, src)
		}
		if len(diags) == 0 {
			told++
			again(t, m, known)
		} else {
			words[int(diags[0].Err)]++
		}
	}
	if told < 300 {
		t.Errorf("only %d told; %v", told, words)
	}
}

// P16.1: whatever mods are, it ends without a panic.
func TestOtherMods(t *testing.T) {
	known := mods(t)
	chance := rand.New(rand.NewSource(162))
	src := with("v := u.u^; p.next := N.p; c := fun2(letter, N.arr[1, 2]); i := N.f(3, text[2]) + LEN(N.arr) + N.k; b := p IS N.B; p(N.B).c := 41X; N.q; text := N.word; p := N.make(); i := N.kp.k + N.hp.h + N.z.z + N.r.a")
	right(t, src, known...)
	for range 6000 {
		l := []api.Module{tree.Clone(known[0]), tree.Clone(known[1])}
		for range 1 + chance.Intn(3) {
			wreck(chance, reflect.ValueOf(&l[0]).Elem())
		}
		m, diags := Compile(src, l...)
		if (len(diags) == 0) == (m.Name == "") {
			t.Fatalf("%v, %v", diags, m.Name)
		}
	}
	Compile(src, api.Module{}, api.Module{Name: "N"}, api.Module{Name: "In", Consts: []api.Const{{}}})
}

// wreck changes one thing somewhere in v.
func wreck(chance *rand.Rand, v reflect.Value) {
	switch v.Kind() {
	case reflect.Struct:
		wreck(chance, v.Field(chance.Intn(v.NumField())))
	case reflect.Slice:
		switch {
		case v.Len() > 0 && chance.Intn(6) > 0:
			wreck(chance, v.Index(chance.Intn(v.Len())))
		case v.Len() > 0 && chance.Intn(2) == 0:
			v.Set(v.Slice(0, v.Len()-1))
		default:
			v.Set(reflect.Append(v, reflect.New(v.Type().Elem()).Elem()))
		}
	case reflect.Int, reflect.Int32:
		v.SetInt(int64(chance.Intn(14) - 2))
	case reflect.String:
		v.SetString([]string{"", "N.R", "N.B", "N.H", "M.U", "M.V", "x", "a", "N.nix"}[chance.Intn(9)])
	case reflect.Bool:
		v.SetBool(!v.Bool())
	}
}
