package eval

import (
	"bytes"
	"math"
	"strconv"
	"strings"
	"testing"

	"wafer/api"
	"wafer/sample"
	"wafer/tree"
)

// much is fuel that none of these programs uses up.
const much = 1000000

// head is what is ahead of the statements of most of the programs.
const head = `MODULE M; IMPORT In, Out;
CONST min = 80000000H; max = 7FFFFFFFH;
TYPE R = RECORD x: INTEGER; n: POINTER TO R END; S = RECORD (R) y: CHAR; a: ARRAY 3 OF INTEGER END; T = RECORD (S) END; E = RECORD END; P = POINTER TO R;
VAR i, j, k: INTEGER; c: CHAR; b, o: BOOLEAN; s, s2: SET; a: ARRAY 4 OF INTEGER; m: ARRAY 2 OF ARRAY 3 OF INTEGER; t, t2: ARRAY 5 OF CHAR; r, r2: R; sr: S; p, q: P; ps: POINTER TO S; pt: POINTER TO T; e: POINTER TO E;
PROCEDURE out(n: INTEGER); BEGIN Out.Int(n); Out.Char(" ") END out;
PROCEDURE say(n: INTEGER): INTEGER; BEGIN Out.Char("<"); Out.Int(n); Out.Char(">") RETURN n END say;
PROCEDURE yes(n: INTEGER): BOOLEAN; BEGIN Out.Int(n) RETURN n > 0 END yes;
PROCEDURE set(VAR v: INTEGER; n: INTEGER): INTEGER; BEGIN v := n RETURN n END set;
PROCEDURE move(VAR v: P; n: P): INTEGER; BEGIN v := n RETURN 0 END move;
PROCEDURE fib(n: INTEGER): INTEGER; VAR r1: INTEGER; BEGIN IF n < 2 THEN r1 := n ELSE r1 := fib(n - 1) + fib(n - 2) END RETURN r1 END fib;
PROCEDURE swap(VAR x: INTEGER; n: INTEGER; VAR y, z: INTEGER); VAR h: INTEGER; BEGIN h := x; x := y; y := z + n; z := h END swap;
PROCEDURE deep(n: INTEGER); BEGIN IF n > 1 THEN deep(n - 1) ELSE Out.Char("!") END END deep;
PROCEDURE fresh; VAR l: INTEGER; la: ARRAY 2 OF CHAR; lp: POINTER TO R; BEGIN out(l + ORD(la[1])); ASSERT(lp = NIL); l := 5; la[1] := "x"; NEW(lp) END fresh;
`

// source tells a program of statements.
func source(stmts string) string { return head + "BEGIN " + stmts + " END M." }

// does checks what statements do (of input "in").
func does(t *testing.T, stmts, out string, trap int) {
	t.Helper()
	l := sample.Trees(source(stmts))
	before := tree.Clone(l[0])
	want := api.Result{Out: []byte(out), End: api.Halted}
	if trap != 0 {
		want.End, want.Trap = api.Trapped, trap
	}
	same(t, stmts, Run([]byte("in"), 100, much, l...), want)
	if !tree.Same(before, l[0]) {
		t.Errorf("%s: changed", stmts)
	}
}

// same checks a result.
func same(t *testing.T, what string, got, want api.Result) {
	t.Helper()
	if !bytes.Equal(got.Out, want.Out) || got.End != want.End || got.Trap != want.Trap {
		t.Errorf("%s: %q, %d, %d, want %q, %d, %d", what, got.Out, got.End, got.Trap, want.Out, want.End, want.Trap)
	}
}

// P23.2: expressions.
func TestExpressions(t *testing.T) {
	for _, x := range []struct {
		expr string
		want int
	}{
		{"1 + 1", 2}, {"i", 0}, {"i + max + 1", math.MinInt32}, {"i - max - 2", math.MaxInt32}, {"(i + max) * 2", -2}, {"-(i + min)", math.MinInt32}, {"ABS(i + min)", math.MinInt32}, {"ABS(i - 5)", 5}, {"(i - 7) DIV 2", -4}, {"(i - 7) MOD 2", 1}, {"(i + 7) DIV 2", 3}, {"LSL(i + 1, 33)", 2}, {"LSL(i + 1, -1)", math.MinInt32}, {"ASR(i - 8, 1)", -4}, {"ROR(i + 1, 1)", math.MinInt32}, {"ORD(CHR(i + 255))", 255}, {"ORD(CHR(i))", 0}, {"ORD(i = 0)", 1}, {"ORD({i, 2 .. i + 4})", 29}, {"ORD(-(s + {i}))", -2}, {"ORD({i .. 3} - {1})", 13}, {"ORD({i .. 3} * {1, 9})", 2}, {"ORD({i .. 3} / {1, 9})", 15 - 2 + 512}, {"ORD({i + 3 .. 2})", 0}, {"ORD({i + 31})", math.MinInt32},
		{"ORD(ODD(i + 3))", 1}, {"ORD(ODD(i - 3))", 1}, {"ORD(ODD(i + 2))", 0}, {"ORD(~(i = 1))", 1}, {"ORD(i # 0)", 0}, {"ORD((i < 1) & (i <= 0) & ~(i > 0) & (i >= 0))", 1}, {"ORD((i < 0) OR (i <= -1) OR (i > 0) OR (i >= 1))", 0}, {"ORD(c < \"a\")", 1}, {"ORD(i IN {i})", 1}, {"ORD(i + 1 IN {i})", 0}, {"ORD(i - 1 IN s - {1})", 0}, {"ORD(i + 32 IN -s)", 0}, {"ORD(s = {})", 1}, {"ORD(s # {i})", 1}, {"ORD(b = o)", 1}, {"ORD(p = NIL)", 1}, {"ORD(ps # p)", 0}, {"ORD(p IS S)", 0}, {"fib(10)", 55}, {"ORD(In.Eof())", 0}, {"ORD(c)", 0}, {"LEN(m)", 2}, {"LEN(m[1])", 3}, {"ORD(i + min < max)", 1}, {"ORD(max + i > min)", 1},
	} {
		does(t, "out("+x.expr+")", strconv.Itoa(x.want)+" ", 0)
	}
}

// P23.2: from the left to the right.
func TestOrder(t *testing.T) {
	for _, x := range []struct{ stmts, out string }{
		{"i := say(1) + say(2) * say(3)", "<1><2><3>"}, {"b := say(1) < say(2)", "<1><2>"}, {"m[say(1), say(2)] := say(3)", "<1><2><3>"}, {"s := {say(1), say(2) .. say(3), say(4)}", "<1><2><3><4>"}, {"i := LSL(say(1), say(2))", "<1><2>"}, {"b := say(1) IN {say(2)}", "<1><2>"}, {"INC(a[say(1)], say(2))", "<1><2>"},
		{"b := yes(1) & yes(0) & yes(1)", "10"}, {"b := yes(0) OR yes(1) OR yes(1)", "01"}, {"b := yes(1) & yes(1)", "11"}, {"IF yes(0) THEN ELSIF yes(1) THEN ELSIF yes(2) THEN END", "01"},
		{"i := 1; out(i + set(i, 5)); out(set(i, 7) + i)", "6 14 "}, {"i := 1; INC(i, set(i, 5)); out(i)", "10 "}, {"i := 1; DEC(i, set(i, 5)); out(i)", "0 "}, {"a[2] := 7; i := 2; a[i] := set(i, 1); out(a[2]); out(a[1])", "1 0 "},
		{"NEW(p); NEW(q); p.x := 1; q.x := 2; p.x := 5 + move(p, q); out(p.x); out(q.x)", "2 2 "},
		{"NEW(p); NEW(q); a[1] := 9; i := 1; FOR i := 1 TO set(j, 3) DO out(i) END; out(i)", "1 2 3 4 "}, {"i := 9; FOR i := 2 TO i + 1 DO out(i) END", "2 3 "},
		{"FOR i := 3 TO 1 BY -1 DO out(i) END; FOR i := 1 TO 5 BY 2 DO out(i); INC(i) END; FOR i := 1 TO 0 DO out(i) END", "3 2 1 1 4 "}, {"j := 3; FOR i := 1 TO j DO j := 0; out(i) END", "1 2 3 "},
	} {
		does(t, x.stmts, x.out, 0)
	}
}

// P23.3: statements.
func TestStatements(t *testing.T) {
	for _, x := range []struct{ stmts, out string }{
		{"", ""}, {"Out.Int(min); Out.Ln; Out.Int(-7); Out.Int(0)", "-2147483648\n-70"}, {"Out.String(\"hi\"); Out.String(\"\"); Out.String(t)", "hi"}, {"t := \"abcd\"; Out.String(t); t := \"x\"; Out.String(t); Out.Char(t[2]); t2 := t; Out.String(t2); t[1] := \"y\"; Out.String(t2); Out.String(t)", "abcdxcxxxycd"}, {"FOR i := 0 TO 4 DO t[i] := CHR(i + 65) END; Out.String(t)", "ABCDE"}, {"Out.Char(0X); Out.Char(0FFX)", "\x00\xff"},
		{"In.Char(c); Out.Char(c); b := In.Eof(); In.Char(c); Out.Char(c); out(ORD(In.Eof())); c := \"z\"; In.Char(c); out(ORD(c)); In.Char(c); out(ORD(c))", "in1 0 0 "},
		{"fresh; fresh", "0 0 "}, {"deep(100)", "!"}, {"i := 3; r.x := 4; r2 := r; r.x := 5; out(r2.x); sr.a[2] := 6; sr.x := 1; a[3] := sr.a[2]; out(a[3])", "4 6 "}, {"m[1, 2] := 7; m[0] := m[1]; m[1, 2] := 8; out(m[0, 2]); out(m[0, 1])", "7 0 "},
		{"NEW(ps); ps.x := 3; ps.y := \"q\"; p := ps; out(p.x); Out.Char(p(S).y); out(ORD(p IS S)); out(ORD(p IS T)); out(ORD(p IS R)); p^ := r; out(ps.x); Out.Char(ps.y)", "3 q1 0 1 0 q"}, {"NEW(pt); ps := pt; p := ps; out(ORD(p IS T)); p(T).a[1] := 3; out(ps.a[1])", "1 3 "}, {"NEW(p); q := p; out(ORD(p = q)); NEW(q); out(ORD(p = q)); out(ORD(p # NIL)); p := NIL; out(ORD(p = NIL)); p := q; p.n := p; p.n.n.n.x := 4; out(q.x)", "1 0 1 1 4 "}, {"NEW(e)", ""}, {"i := 1; j := 2; k := 3; swap(i, 10, j, k); out(i); out(j); out(k); swap(a[i], 1, a[j MOD 4], i); out(i); out(a[2]); out(a[1])", "2 13 1 0 0 3 "},
		{"s := {1, 5}; INCL(s, 31); EXCL(s, 5); EXCL(s, 4); out(ORD(s - {31})); out(ORD(31 IN s))", "2 1 "}, {"i := max; INC(i); out(i); DEC(i); out(i); i := 5; INC(i, -7); out(i); DEC(i, min); out(i)", "-2147483648 2147483647 -2 2147483646 "},
		{"i := 5; WHILE i > 3 DO out(i); DEC(i) ELSIF i > 0 DO out(-i); DEC(i, 2) END; REPEAT out(i); INC(i) UNTIL i > 1", "5 4 -3 -1 -1 0 1 "}, {"WHILE b DO END; IF b THEN out(1) END; IF b THEN ELSE out(2) END", "2 "}, {"FOR i := -1 TO 8 DO CASE i OF -1, 1 .. 2: out(1) | 0: out(2) | 5 .. 8, 3, 4: out(3) END END", "1 2 1 1 3 3 3 3 3 3 "}, {"c := \"m\"; CASE c OF \"a\" .. \"l\": out(1) | \"m\": out(2) END", "2 "},
	} {
		does(t, x.stmts, x.out, 0)
	}
}

// P23.1, P23.2, P23.3: traps, and what was written till then.
func TestTraps(t *testing.T) {
	for _, x := range []struct {
		stmts, out string
		trap       int
	}{
		{"out(1); a[i + 4] := say(2)", "1 ", api.TrapIndex}, {"a[i - 1] := say(2)", "", api.TrapIndex}, {"m[i + 1, i + 3] := 1", "", api.TrapIndex}, {"m[say(2), say(1)] := 1", "<2>", api.TrapIndex}, {"i := a[4 + i]", "", api.TrapIndex}, {"i := a[min + i]", "", api.TrapIndex}, {"i := set(a[i + 4], say(1))", "", api.TrapIndex}, {"i := say(1) + a[say(9)] + say(2)", "<1><9>", api.TrapIndex},
		{"p.x := say(1)", "", api.TrapNil}, {"i := p.x", "", api.TrapNil}, {"r := p^", "", api.TrapNil}, {"p := p.n", "", api.TrapNil}, {"NEW(p); p.n.x := 1", "", api.TrapNil}, {"ps := p(S)", "", api.TrapNil}, {"p(S).y := \"a\"", "", api.TrapNil}, {"p(R).x := 1", "", api.TrapNil}, {"INC(p.x, say(1))", "", api.TrapNil}, {"NEW(p.n)", "", api.TrapNil}, {"In.Char(p(S).y)", "", api.TrapNil}, {"i := set(p.x, say(1))", "", api.TrapNil},
		{"NEW(p); out(1); p(S).y := \"a\"", "1 ", api.TrapGuard}, {"NEW(ps); p := ps; ps := p(T)", "", api.TrapGuard}, {"NEW(p); b := p(S) # NIL", "", api.TrapGuard},
		{"i := say(1) DIV say(0)", "<1><0>", api.TrapDiv}, {"i := 1 MOD i", "", api.TrapDiv}, {"i := 1 DIV (i - 1)", "", api.TrapDiv}, {"i := 1 MOD (i + min)", "", api.TrapDiv},
		{"ASSERT(b); out(1)", "", api.TrapAssert}, {"c := CHR(i - 1)", "", api.TrapRange}, {"c := CHR(i + 256)", "", api.TrapRange}, {"s := {i - 1}", "", api.TrapRange}, {"s := {say(32), say(1)}", "<32>", api.TrapRange}, {"s := {say(32) .. say(1)}", "<32><1>", api.TrapRange}, {"s := {i .. 32}", "", api.TrapRange}, {"s := {i + 3 .. i - 1}", "", api.TrapRange}, {"INCL(s, i - 1)", "", api.TrapRange}, {"EXCL(s, say(32))", "<32>", api.TrapRange},
		{"CASE i OF 1: END", "", api.TrapCase}, {"CASE say(3) OF END", "<3>", api.TrapCase}, {"CASE c OF 1X .. 0FFX: END", "", api.TrapCase},
		{"deep(101)", "", api.TrapStack}, {"i := fib(say(200))", "<200>", api.TrapStack}, {"WHILE TRUE DO NEW(p); INC(i); out(i) END", "", api.TrapHeap},
	} {
		if x.trap == api.TrapHeap {
			want := ""
			for i := 1; i <= 33; i++ {
				want += strconv.Itoa(i) + " "
			}
			x.out = want
		}
		does(t, x.stmts, x.out, x.trap)
	}
}

// P23.2: arguments are reckoned ahead of TrapStack, and this ahead of fuel.
func TestStackOrder(t *testing.T) {
	src := "MODULE M; IMPORT Out; PROCEDURE p(n, m: INTEGER); BEGIN Out.Char(\".\"); IF n = 100 THEN p(n + 1, 1 DIV (n - 100)) ELSE p(n + 1, 0) END END p; BEGIN p(1, 0) END M."
	l := sample.Trees(src)
	same(t, "division", Run(nil, 0, much, l...), api.Result{Out: bytes.Repeat([]byte("."), 100), End: api.Trapped, Trap: api.TrapDiv})
	l = sample.Trees(strings.Replace(src, "1 DIV (n - 100)", "0", 1))
	want := api.Result{Out: bytes.Repeat([]byte("."), 100), End: api.Trapped, Trap: api.TrapStack}
	same(t, "stack", Run(nil, 0, much, l...), want)
	// One for each p, its three statements; the last one's call takes none.
	same(t, "just enough", Run(nil, 0, 1+4*100, l...), want)
	same(t, "one less", Run(nil, 0, 4*100, l...), api.Result{Out: want.Out})
}

// P23.1: fuel, one by one.
func TestFuel(t *testing.T) {
	for _, x := range []struct {
		stmts string
		n     int
	}{
		{"", 0}, {"i := 1", 1}, {"i := 1; j := 2; Out.Ln", 3}, {"IF TRUE THEN i := 1 END", 2}, {"IF b THEN ELSIF b THEN ELSE i := 1; i := 2 END", 3}, {"WHILE b DO END", 2}, {"WHILE b DO ELSIF b DO END", 3}, {"WHILE i < 3 DO INC(i) END", 1 + 3*2 + 1}, {"WHILE b DO ELSIF i < 2 DO INC(i) END", 1 + 2*3 + 2}, {"REPEAT INC(i) UNTIL i = 3", 1 + 3*2}, {"REPEAT UNTIL TRUE", 2}, {"FOR i := 1 TO 3 DO END", 1 + 4}, {"FOR i := 1 TO 3 DO j := i END", 1 + 3*2 + 1}, {"FOR i := 1 TO 0 DO END", 2}, {"CASE 1 OF 1: i := 1 END", 2}, {"i := say(1)", 1 + 1 + 3}, {"out(say(1))", 1 + 1 + 3 + 1 + 2}, {"deep(3)", 1 + 3 + 3 + 3}, {"i := say(1) + say(2)", 1 + 4 + 4}, {"IF yes(0) THEN ELSIF yes(1) THEN END", 1 + 2 + 2}, {"b := yes(1) & yes(1)", 1 + 2 + 2}, {"b := yes(0) & yes(1)", 1 + 2},
	} {
		l := sample.Trees(source(x.stmts))
		whole := Run(nil, 0, much, l...)
		for fuel := range x.n {
			if r := Run(nil, 0, fuel, l...); r.End != api.Running || r.Trap != 0 || !bytes.HasPrefix(whole.Out, r.Out) {
				t.Errorf("%s: of %d: %v", x.stmts, fuel, r)
			}
		}
		same(t, x.stmts, Run(nil, 0, x.n, l...), whole)
		if whole.End != api.Halted {
			t.Errorf("%s: %v", x.stmts, whole)
		}
	}
	forever := sample.Trees("MODULE M; IMPORT Out; VAR i: INTEGER; BEGIN FOR i := 7FFFFFFEH TO 7FFFFFFFH DO Out.Char(\".\") END END M.")
	same(t, "for ever", Run(nil, 0, 1001, forever...), api.Result{Out: bytes.Repeat([]byte("."), 500)})
	same(t, "below 0", Run(nil, 0, -1, forever...), api.Result{})
	same(t, "least", Run(nil, 0, math.MinInt, forever...), api.Result{})
	same(t, "none, for nothing", Run(nil, 0, -1, sample.Trees("MODULE M; END M.")...), api.Result{End: api.Halted})
	same(t, "no modules", Run(nil, 0, 0), api.Result{End: api.Halted})
}

// P23.3: words of the heap, just enough and one less.
func TestHeap(t *testing.T) {
	l := sample.Trees("MODULE M; TYPE R = RECORD a: ARRAY 3 OF INTEGER END; S = RECORD (R) b: CHAR END; E = RECORD END; VAR r: POINTER TO R; s: POINTER TO S; e: POINTER TO E; BEGIN NEW(r); NEW(s); NEW(e) END M.")
	for _, x := range []struct{ heap, trap int }{{10, 0}, {9, api.TrapHeap}, {0, api.TrapHeap}, {-1, api.TrapHeap}, {math.MinInt, api.TrapHeap}, {math.MaxInt, 0}} {
		if r := Run(nil, x.heap, much, l...); r.Trap != x.trap {
			t.Errorf("%d: %v", x.heap, r)
		}
	}
	// The pointer's place comes first.
	does(t, "WHILE i < 33 DO NEW(p); INC(i) END; NEW(p.n.n)", "", api.TrapNil)
}

// P23.1: variables and frames that are as great as may be.
func TestGreat(t *testing.T) {
	l := sample.Trees("MODULE A; VAR a: ARRAY 1024 OF ARRAY 16 OF INTEGER; PROCEDURE p*(n: INTEGER): INTEGER; VAR l: ARRAY 1000 OF INTEGER; k: ARRAY 1000 OF INTEGER; m: ARRAY 47 OF INTEGER; BEGIN l[999] := n; k[999] := 2; m[46] := 1; a[1023, 15] := 3 RETURN l[999] + k[999] + m[46] + a[1023, 15] END p; END A.",
		"MODULE B; IMPORT A, Out; VAR a: ARRAY 1024 OF ARRAY 16 OF INTEGER; BEGIN a[1023, 15] := 4; Out.Int(A.p(10) + a[1023, 15]) END B.")
	same(t, "great", Run(nil, 0, much, l...), api.Result{Out: []byte("20"), End: api.Halted})
}

// P23.1: modules one by one; records of one extended by another; variables of another.
func TestModules(t *testing.T) {
	l := sample.Trees("MODULE A; IMPORT Out; TYPE R* = RECORD x: INTEGER END; P* = POINTER TO R; VAR v*: INTEGER; p*: P; PROCEDURE q*(VAR n: INTEGER); BEGIN INC(n); INC(v) END q; BEGIN Out.Char(\"A\"); v := 3; NEW(p) END A.",
		"MODULE B; IMPORT A, Out; TYPE S = RECORD (A.R) y: INTEGER END; VAR v: INTEGER; s: POINTER TO S; p: A.P; BEGIN Out.Char(\"B\"); A.q(v); Out.Int(A.v); Out.Int(v); A.p.x := 9; NEW(s); s.y := 1; s.x := 2; p := s; Out.Int(p.x); Out.Int(A.p.x); ASSERT(p IS S); p := A.p; ASSERT(~(p IS S)); p(S).y := 1 END B.")
	want := api.Result{Out: []byte("AB4129"), End: api.Trapped, Trap: api.TrapGuard}
	same(t, "both", Run(nil, 100, much, l...), want)
	same(t, "the first of a name", Run(nil, 100, much, l[0], l[1], api.Module{Name: "A", Body: []api.Stmt{{Op: api.PutLn}}}), want)
	same(t, "twice", Run(nil, 100, much, l[0], l[0]), api.Result{Out: []byte("A"), End: api.Halted})
}

// P23.4: the same again is the same; what is handed in isn't changed.
func TestAgain(t *testing.T) {
	in := []byte("input")
	l := sample.Trees("MODULE M; IMPORT In, Out; VAR c: CHAR; BEGIN WHILE ~In.Eof() DO In.Char(c); Out.Char(c) END END M.")
	a := Run(in, 0, much, l...)
	clear(a.Out)
	same(t, "again", Run(in, 0, much, l...), api.Result{Out: []byte("input"), End: api.Halted})
	if string(in) != "input" {
		t.Error("changed")
	}
}

// P23.1: of trees that aren't right a run ends.
func TestWrong(t *testing.T) {
	name := api.Expr{Op: api.Name, S: "M.x", T: api.Type{Form: api.Int}}
	huge := api.Type{Form: api.Array, N: 1 << 40, Of: []api.Type{{Form: api.Int}}}
	body := func(l ...api.Stmt) api.Module { return api.Module{Name: "M", Body: l} }
	for _, m := range []api.Module{
		body(api.Stmt{Op: api.Assign}), body(api.Stmt{Op: api.Assign, X: []api.Expr{name, name}}), body(api.Stmt{Op: api.Do, X: []api.Expr{{Op: api.Call, S: "M.p"}}}), body(api.Stmt{Op: api.While}), body(api.Stmt{Op: api.Repeat}), body(api.Stmt{Op: api.For, X: []api.Expr{name, name, name}}), body(api.Stmt{Op: api.Case, X: []api.Expr{{}}, I: []int32{0, 0, 9}}), body(api.Stmt{Op: 99}), body(api.Stmt{Op: api.PutInt, X: []api.Expr{{Op: 99}}}), body(api.Stmt{Op: api.PutStr, X: []api.Expr{{Op: api.Guard}}}), body(api.Stmt{Op: api.Assert, X: []api.Expr{{Op: api.Is, X: []api.Expr{{I: 9}}}}}),
		{Name: "M", Vars: []api.Var{{Name: "x", T: huge}}, Body: []api.Stmt{{Op: api.PutLn}}}, {Name: "M", Vars: []api.Var{{Name: "x"}}}, {Name: "M", Procs: []api.Proc{{Name: "p", Locals: []api.Var{{T: huge}}}}}, {Name: "M", Recs: []api.Rec{{Name: "R", Base: "M.R"}}, Vars: []api.Var{{T: api.Type{Form: api.Record, Name: "M.R"}}}},
		{Name: "M", Procs: []api.Proc{{Name: "p", Ret: []api.Expr{{Op: api.Call, S: "M.p"}}}}, Body: []api.Stmt{{Op: api.Do, X: []api.Expr{{Op: api.Call, S: "M.p"}}}}},
	} {
		Run([]byte("x"), 100, 1000, m)
	}
}
