package print

import (
	"math"
	"reflect"
	"strings"
	"testing"

	"wafer/api"
	"wafer/scan"
	"wafer/tree"
)

// Types and expressions, as the tests write them.

var (
	integer   = api.Type{Form: api.Int}
	character = api.Type{Form: api.Char}
	boolean   = api.Type{Form: api.Bool}
	sets      = api.Type{Form: api.Set}
	pointer   = api.Type{Form: api.Pointer, Name: "M.R"}
	record    = api.Type{Form: api.Record, Name: "M.R"}
)

func array(n int, of api.Type) api.Type {
	return api.Type{Form: api.Array, N: n, Of: []api.Type{of}}
}
func con(t api.Type, i int32) api.Expr             { return api.Expr{Op: api.Lit, T: t, I: i} }
func num(i int32) api.Expr                         { return con(integer, i) }
func name(t api.Type, s string) api.Expr           { return api.Expr{Op: api.Name, T: t, S: s} }
func str(s string) api.Expr                        { return api.Expr{Op: api.Lit, T: api.Type{Form: api.Str}, S: s} }
func op(o int, t api.Type, x ...api.Expr) api.Expr { return api.Expr{Op: o, T: t, X: x} }
func callOf(t api.Type, s string, x ...api.Expr) api.Expr {
	return api.Expr{Op: api.Call, T: t, S: s, X: x}
}

var (
	x = name(integer, "x")
	y = name(integer, "y")
	z = name(integer, "z")
	a = name(boolean, "a")
	b = name(boolean, "b")
	s = name(sets, "s")
	p = name(pointer, "M.p")
)

// P15.1: expressions, with ( ) just where they are needed.
func TestExpr(t *testing.T) {
	add, mul := func(l ...api.Expr) api.Expr { return op(api.Add, integer, l...) }, func(l ...api.Expr) api.Expr { return op(api.Mul, integer, l...) }
	neg := func(e api.Expr) api.Expr { return op(api.Neg, integer, e) }
	for _, q := range []struct {
		e    api.Expr
		want string
	}{
		{num(5), "5"}, {num(0), "0"}, {num(-5), "-5"}, {num(math.MaxInt32), "2147483647"}, {num(math.MinInt32), "80000000H"}, {num(-math.MaxInt32), "-2147483647"},
		{con(character, 65), "41X"}, {con(character, 0), "0X"}, {con(character, 255), "0FFX"}, {con(character, 0xa0), "0A0X"}, {con(character, 0x9f), "9FX"}, {con(boolean, 1), "TRUE"}, {con(boolean, 0), "FALSE"}, {con(api.Type{Form: api.Nil}, 0), "NIL"}, {str("a'b"), `"a'b"`}, {str(""), `""`},
		{con(sets, 0), "{}"}, {con(sets, 1), "{0}"}, {con(sets, -1), "{0 .. 31}"}, {con(sets, 0x2d), "{0, 2 .. 3, 5}"}, {con(sets, math.MinInt32), "{31}"},
		{add(x, add(y, z)), "x + (y + z)"}, {add(add(x, y), z), "x + y + z"}, {add(x, mul(y, z)), "x + y * z"}, {mul(add(x, y), z), "(x + y) * z"}, {mul(x, mul(y, z)), "x * (y * z)"}, {mul(mul(x, y), z), "x * y * z"},
		{neg(x), "-x"}, {add(neg(x), y), "-x + y"}, {add(x, neg(y)), "x + (-y)"}, {neg(add(x, y)), "-(x + y)"}, {neg(mul(x, y)), "-x * y"}, {mul(neg(x), y), "(-x) * y"}, {neg(neg(x)), "-(-x)"},
		{add(num(-1), x), "-1 + x"}, {add(x, num(-1)), "x + (-1)"}, {mul(num(-1), x), "(-1) * x"}, {mul(x, num(math.MinInt32)), "x * 80000000H"}, {mul(x, num(0)), "x * 0"}, {mul(x, num(1)), "x * 1"}, {op(api.Sub, integer, x, op(api.Sub, integer, y, z)), "x - (y - z)"},
		{op(api.Div, integer, x, y), "x DIV y"}, {op(api.Mod, integer, x, y), "x MOD y"}, {op(api.Div, sets, s, s), "s / s"}, {op(api.Sub, sets, s, op(api.Neg, sets, s)), "s - (-s)"},
		{op(api.And, boolean, op(api.Or, boolean, a, b), op(api.Not, boolean, a)), "(a OR b) & ~a"}, {op(api.Or, boolean, a, op(api.And, boolean, a, b)), "a OR a & b"}, {op(api.Not, boolean, op(api.Eq, boolean, x, y)), "~(x = y)"}, {op(api.Not, boolean, op(api.Not, boolean, a)), "~~a"},
		{op(api.Eq, boolean, op(api.Lt, boolean, x, y), op(api.Ge, boolean, x, y)), "(x < y) = (x >= y)"}, {op(api.Ne, boolean, add(x, y), num(-3)), "x + y # -3"}, {op(api.Le, boolean, x, y), "x <= y"}, {op(api.Gt, boolean, x, y), "x > y"}, {op(api.And, boolean, op(api.Le, boolean, x, y), a), "(x <= y) & a"},
		{op(api.In, boolean, x, s), "x IN s"}, {api.Expr{Op: api.Is, T: boolean, S: "M.R", X: []api.Expr{p}}, "M.p IS M.R"},
		{op(api.SetOf, sets, op(api.One, api.Type{}, x), op(api.Span, api.Type{}, num(1), add(x, y))), "{x, 1 .. x + y}"},
		{op(api.Index, integer, op(api.Index, array(2, integer), name(array(2, array(2, integer)), "v"), x), op(api.Eq, boolean, x, y)), "v[x][x = y]"},
		{api.Expr{Op: api.Field, T: integer, S: "f", X: []api.Expr{op(api.Deref, record, api.Expr{Op: api.Guard, T: pointer, S: "N.R", X: []api.Expr{p}})}}, "M.p(N.R)^.f"},
		{callOf(integer, "M.f"), "M.f()"}, {callOf(integer, "M.f", x, add(x, y)), "M.f(x, x + y)"},
		{op(api.Abs, integer, neg(x)), "ABS(-x)"}, {op(api.Odd, boolean, x), "ODD(x)"}, {op(api.Lsl, integer, x, y), "LSL(x, y)"}, {op(api.Asr, integer, x, y), "ASR(x, y)"}, {op(api.Ror, integer, x, y), "ROR(x, y)"}, {op(api.Ord, integer, a), "ORD(a)"}, {op(api.Chr, character, x), "CHR(x)"}, {op(api.Eof, boolean), "In.Eof()"},
	} {
		if got := Expr(q.e); got != q.want {
			t.Errorf("%q, want %q", got, q.want)
		}
	}
}

// P15.1: another text of each INTEGER.
func TestNumbers(t *testing.T) {
	seen := map[string]int32{}
	try := func(i int32) {
		text := Expr(num(i))
		if old, ok := seen[text]; ok && old != i {
			t.Fatalf("%d and %d: %q", i, old, text)
		}
		seen[text] = i
	}
	for i := int32(-70000); i < 70000; i++ {
		try(i)
	}
	for i := range 32 {
		for _, d := range []int32{-2, -1, 0, 1, 2} {
			try(int32(1)<<i + d)
			try(-(int32(1) << i) + d)
		}
	}
}

// module is a module with something of all.
func module() api.Module {
	stmt := func(o int, x ...api.Expr) api.Stmt { return api.Stmt{Op: o, X: x} }
	set1 := stmt(api.Assign, name(integer, "M.v"), num(1))
	c := name(character, "M.c")
	return api.Module{
		Name: "M", Imports: []string{"In", "N", "Out"},
		Consts: []api.Const{{Name: "k", Export: true, E: num(-3)}, {Name: "t", E: str("x")}},
		Names:  []api.Var{{Name: "T", Export: true, T: array(3, array(4, pointer))}, {Name: "U", T: record}},
		Recs:   []api.Rec{{Name: "R", Export: true, Fields: []api.Var{{Name: "f", T: integer}, {Name: "g", T: api.Type{Form: api.Pointer, Name: "M.S"}}}}, {Name: "S", Base: "N.Q"}},
		Vars:   []api.Var{{Name: "v", Export: true, T: integer}, {Name: "c", T: character}, {Name: "r", T: record}},
		Procs: []api.Proc{
			{Name: "p"},
			{Name: "q", Export: true, Params: []api.Param{{Name: "i", Ref: true, T: array(3, record)}, {Name: "j", T: character}}, Result: pointer, Locals: []api.Var{{Name: "l", T: sets}}, Body: []api.Stmt{{Op: api.Do, X: []api.Expr{callOf(api.Type{}, "M.p")}}}, Ret: []api.Expr{name(pointer, "l")}},
		},
		Body: []api.Stmt{
			{Op: api.If, X: []api.Expr{a, b}, B: [][]api.Stmt{{set1, set1}, nil, {set1}}},
			{Op: api.If, X: []api.Expr{a}, B: [][]api.Stmt{{set1}}},
			{Op: api.While, X: []api.Expr{a, b}, B: [][]api.Stmt{{set1}, {set1}}},
			{Op: api.Repeat, X: []api.Expr{a}, B: [][]api.Stmt{{set1}}},
			{Op: api.For, X: []api.Expr{name(integer, "M.v"), num(1), num(9)}, B: [][]api.Stmt{{set1}}, I: []int32{1}},
			{Op: api.For, X: []api.Expr{name(integer, "M.v"), num(9), num(1)}, B: [][]api.Stmt{nil}, I: []int32{-2}},
			{Op: api.Case, X: []api.Expr{name(integer, "M.v")}, B: [][]api.Stmt{{set1}, nil}, I: []int32{-1, -1, 0, 3, 5, 0, 9, 9, 1}},
			{Op: api.Case, X: []api.Expr{c}, B: [][]api.Stmt{nil}, I: []int32{65, 90, 0}},
			{Op: api.Case, X: []api.Expr{c}},
			{Op: api.Do, X: []api.Expr{callOf(api.Type{}, "N.p", x)}},
			stmt(api.Inc, name(integer, "M.v"), num(1)), stmt(api.Dec, name(integer, "M.v"), x), stmt(api.Incl, s, x), stmt(api.Excl, s, x), stmt(api.New, p), stmt(api.Assert, a),
			stmt(api.Read, c), stmt(api.PutInt, x), stmt(api.PutChar, c), stmt(api.PutStr, str("s")), stmt(api.PutLn),
		},
	}
}

// P15.1: a whole module, symbol by symbol.
func TestModule(t *testing.T) {
	want := `MODULE M; IMPORT In, N, Out;
CONST k* = -3; t = "x";
TYPE R* = RECORD f: INTEGER; g: POINTER TO S END; S = RECORD (N.Q) END; T* = ARRAY 3 OF ARRAY 4 OF POINTER TO R; U = R;
VAR v*: INTEGER; c: CHAR; r: R;
PROCEDURE p(); END p;
PROCEDURE q*(VAR i: ARRAY 3 OF R; j: CHAR): POINTER TO R; VAR l: SET; BEGIN p RETURN l END q;
BEGIN
IF a THEN v := 1; v := 1 ELSIF b THEN ELSE v := 1 END;
IF a THEN v := 1 END;
WHILE a DO v := 1 ELSIF b DO v := 1 END;
REPEAT v := 1 UNTIL a;
FOR v := 1 TO 9 DO v := 1 END;
FOR v := 9 TO 1 BY -2 DO END;
CASE v OF -1, 3 .. 5: v := 1 | 9: END;
CASE c OF 41X .. 5AX: END;
CASE c OF END;
N.p(x);
INC(v, 1); DEC(v, x); INCL(s, x); EXCL(s, x); NEW(p); ASSERT(a);
In.Char(c); Out.Int(x); Out.Char(c); Out.String("s"); Out.Ln
END M.`
	if got := Module(module()); symbols(t, got) != symbols(t, want) {
		t.Errorf("%s", got)
	}
	if got := Module(api.Module{Name: "M", Imports: []string{"N"}, Vars: []api.Var{{Name: "v", T: integer}}}); symbols(t, got) != "MODULE M ; IMPORT N ; VAR v : INTEGER ; END M . " {
		t.Errorf("%s", got)
	}
	if got := Module(api.Module{Name: "M"}); symbols(t, got) != "MODULE M ; END M . " {
		t.Errorf("%s", got)
	}
}

// symbols tells a source's symbols with spaces between.
func symbols(t *testing.T, src string) string {
	t.Helper()
	l, diags := scan.All(src)
	if len(diags) != 0 {
		t.Fatalf("%v:\n%s", diags, src)
	}
	var b strings.Builder
	for _, x := range l[:len(l)-1] {
		b.WriteString(src[x.Pos:x.End] + " ")
	}
	return b.String()
}

// broken calls f with v after each change of one thing in it.
func broken(v reflect.Value, f func()) {
	switch v.Kind() {
	case reflect.Struct:
		for i := range v.NumField() {
			broken(v.Field(i), f)
		}
	case reflect.Slice:
		old := reflect.New(v.Type()).Elem()
		old.Set(v)
		for n := range v.Len() {
			v.Set(old.Slice(0, n))
			f()
		}
		v.Set(old)
		for i := range v.Len() {
			broken(v.Index(i), f)
		}
	case reflect.Int, reflect.Int32:
		old := v.Int()
		for _, n := range []int64{-1, 0, 1, 99, math.MinInt32, math.MaxInt32} {
			v.SetInt(n)
			f()
		}
		v.SetInt(old)
	}
}

// P15.1: of others any text: none panics.
func TestOthers(t *testing.T) {
	m := module()
	count := 0
	broken(reflect.ValueOf(&m).Elem(), func() {
		Module(m)
		count++
	})
	if count < 1000 || !tree.Same(m, module()) {
		t.Errorf("%d", count)
	}
	for o := -1; o < api.Eof+2; o++ {
		for form := -1; form < 12; form++ {
			for n := range 3 {
				e := op(o, api.Type{Form: form}, make([]api.Expr, n)...)
				Expr(e)
				Module(api.Module{Body: []api.Stmt{{Op: o, X: []api.Expr{e}}}, Vars: []api.Var{{T: e.T}}})
			}
		}
	}
	Module(api.Module{})
}

// P15.1: trees of 1000 in one another, of all operators.
func TestDeep(t *testing.T) {
	for o := range api.Eof + 1 {
		e := num(1)
		for range 999 {
			e = op(o, integer, e, num(2))
		}
		if Expr(e) == "" && o != api.Name {
			t.Errorf("%d: none", o)
		}
	}
	var l []api.Stmt
	for range 1000 {
		l = []api.Stmt{{Op: api.While, X: []api.Expr{a}, B: [][]api.Stmt{l}}}
	}
	if Module(api.Module{Body: l}) == "" {
		t.Error("none")
	}
}

// P15.1: what is handed in isn't changed.
func TestUnchanged(t *testing.T) {
	m := module()
	if Module(m) != Module(m) || !tree.Same(m, module()) {
		t.Error("changed")
	}
}
