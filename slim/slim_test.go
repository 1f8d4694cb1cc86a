package slim

import (
	"bytes"
	"math"
	"math/rand"
	"reflect"
	"strconv"
	"strings"
	"testing"

	"wafer/api"
	"wafer/box"
	"wafer/finger"
	"wafer/front"
	"wafer/tree"
)

// compiled tells the tree of a source that has no faults.
func compiled(t testing.TB, src string, mods ...api.Module) api.Module {
	t.Helper()
	m, diags := front.Compile(src, mods...)
	if len(diags) > 0 {
		t.Fatalf("%v ahead of %.40q in\n%s", diags, src[diags[0].Pos:], src)
	}
	return m
}

const (
	library = "MODULE L; IMPORT Out; CONST k* = 5; s* = \"hi. you\"; hidden = 1; TYPE R* = RECORD x: INTEGER END; A* = ARRAY 3 OF INTEGER; P* = POINTER TO R; VAR v*: INTEGER; p*: P; u: INTEGER; PROCEDURE f* (n: INTEGER): INTEGER; RETURN n * 2 + u END f; PROCEDURE g* (VAR a: A; c: CHAR); BEGIN a[0] := ORD(c) END g; BEGIN u := 1; v := 7; NEW(p); p.x := 3 END L."
	great   = "MODULE M; IMPORT In, Out, L; CONST n* = 3 + 4; t = {1, 3 .. 5}; c = 41X; w = \"one\"; m = 80000000H; TYPE T* = RECORD a, b: INTEGER; next: POINTER TO T; d: ARRAY 2 OF ARRAY 3 OF CHAR END; S = RECORD (T) z: L.A END; P = POINTER TO T; VAR i*, j: INTEGER; x: T; y: S; p: P; s: POINTER TO S; b: ARRAY n OF BOOLEAN; ch: CHAR; st: SET; str: ARRAY 6 OF CHAR; a: L.A; PROCEDURE fib* (k: INTEGER): INTEGER; VAR r: INTEGER; BEGIN IF k < 2 THEN r := k ELSE r := fib(k - 1) + fib(k - 2) END RETURN r END fib; PROCEDURE swap (VAR a1, b1: INTEGER); VAR t1: INTEGER; BEGIN t1 := a1; a1 := b1; b1 := t1 END swap; BEGIN i := n DIV 2 * (3 - (-1)); j := -(-i) + (i - (j - 1)) MOD 7; b[0] := ~(i < j) OR (i = j); str := w; st := {i MOD 32, 3 .. j MOD 32} * (-st) / {1} - t; NEW(p); NEW(s); p := s; p(S).z[1] := 2; INC(i); swap(i, x.b); L.g(a, \"z\"); WHILE i > 3 DO DEC(i) ELSIF i < 0 DO INC(i) END; REPEAT i := i + 1 UNTIL i >= 5; FOR i := 10 TO 1 BY -3 DO Out.Int(i) END; CASE i OF 1, 3 .. 5: j := 1 | -2: | 7: IF b[1] THEN ELSIF b[2] THEN j := 2 ELSE j := 3 END END; In.Char(ch); Out.String(\"done\"); Out.Ln; ASSERT(p IS S); i := fib(10) END M."
)

// there checks that m is told as a file, and that this is m again, and nothing is changed.
func there(t *testing.T, what string, m api.Module) []byte {
	t.Helper()
	before := tree.Clone(m)
	b, err := Encode(m)
	if err != api.OK {
		t.Fatalf("%s: Encode: %v", what, err)
	}
	file := bytes.Clone(b)
	got, err := Decode(b)
	if err != api.OK || !tree.Same(got, m) {
		t.Fatalf("%s: Decode: %v, %v, want %v", what, err, got, m)
	}
	if !tree.Same(m, before) || !bytes.Equal(file, b) {
		t.Errorf("%s: changed", what)
	}
	if again, _ := Encode(got); !bytes.Equal(again, b) {
		t.Errorf("%s: another file", what)
	}
	if k, _, err := box.Open(b); k != 1 || err != api.OK {
		t.Errorf("%s: kind %d, %v", what, k, err)
	}
	return b
}

// integer is a type.
var integer = api.Type{Form: api.Int}

// array tells types that are so many in one another.
func array(n int) api.Type {
	t := integer
	for range n - 1 {
		t = api.Type{Form: api.Array, N: 3, Of: []api.Type{t}}
	}
	return t
}

// deep tells an expression that is so deep.
func deep(n int) api.Expr {
	e := api.Expr{T: integer, I: 7}
	for range n - 1 {
		e = api.Expr{Op: api.Neg, T: integer, X: []api.Expr{e}}
	}
	return e
}

// nested tells statements that are so deep in one another.
func nested(n int) []api.Stmt {
	var l []api.Stmt
	for range n {
		l = []api.Stmt{{Op: api.Repeat, B: [][]api.Stmt{l}}}
	}
	return l
}

// P21.1, P21.3: trees of sources there and back, in few bytes.
func TestSources(t *testing.T) {
	l := compiled(t, library)
	there(t, "library", l)
	b := there(t, "great", compiled(t, great, l))
	if len(b) > len(great)*2/3 {
		t.Errorf("%d bytes of %d", len(b), len(great))
	}
	if b := there(t, "empty", api.Module{}); len(b) > 20 {
		t.Errorf("%d", len(b))
	}
	there(t, "M", compiled(t, "MODULE M; END M."))
}

// P21.1, P21.3: each field of a tree, and what no source has, at its limits.
func TestStrangers(t *testing.T) {
	long, text := strings.Repeat("n", 65), strings.Repeat("\xff.\x00", 40)
	v := []api.Var{{Name: long, Export: true, T: array(8)}, {Name: ".", T: api.Type{Form: math.MaxInt32, N: math.MaxInt32, Name: "a.b.", Of: []api.Type{{}, {N: 1}}}}}
	x := []api.Expr{{Op: math.MaxInt32, I: -1 << 31, S: text, T: array(2)}, {Op: 62, I: 1<<31 - 1, S: "."}, {Op: 63, S: "..", I: -1}, deep(64), {X: []api.Expr{{}, {}, {X: []api.Expr{{}}}}}}
	body := []api.Stmt{{Op: math.MaxInt32, X: x, B: [][]api.Stmt{nil, {{Op: 30}, {Op: 31}, {Op: 32}}, nil}, I: []int32{0, 1, -1, 1<<31 - 1, -1 << 31}}}
	body = append(body, nested(64)...)
	m := api.Module{
		Name: "a.b", Imports: []string{"", "In", "In", "In.Out", ".", "x"}, Consts: []api.Const{{Name: "c", Export: true, E: x[0]}, {}}, Names: v,
		Recs: []api.Rec{{Name: "R", Export: true, Base: "M.B", Fields: v}, {}}, Vars: v,
		Procs: []api.Proc{{Name: "p", Export: true, Params: []api.Param{{Name: "a", Ref: true, T: array(3)}, {}}, Result: array(2), Locals: v, Body: body, Ret: x}, {}}, Body: body,
	}
	there(t, "all", m)
	many := api.Module{Name: "many", Imports: make([]string, 1000), Consts: make([]api.Const, 1000), Names: make([]api.Var, 1000), Recs: make([]api.Rec, 1000), Vars: make([]api.Var, 1000), Procs: make([]api.Proc, 1000), Body: make([]api.Stmt, 1000)}
	for i := range many.Names {
		many.Imports[i], many.Names[i].Name, many.Consts[i].Name = strconv.Itoa(i), strconv.Itoa(i*7), strconv.Itoa(i)+"."+strconv.Itoa(-i)
		many.Vars[i].T.N, many.Recs[i].Base, many.Procs[i].Name, many.Body[i].I = i, "b"+strconv.Itoa(i), "p"+strconv.Itoa(i), []int32{int32(i)}
		many.Procs[i].Params = []api.Param{{Name: "x" + strconv.Itoa(i)}, {Name: "y" + strconv.Itoa(i)}, {T: api.Type{Name: long + strconv.Itoa(i)[:0]}}}
	}
	there(t, "many", many)
	wide := api.Type{Form: 3, Of: make([]api.Type, 1000)}
	for i := range wide.Of {
		wide.Of[i] = api.Type{Form: i, Name: "r" + strconv.Itoa(i)}
	}
	there(t, "wide", api.Module{Vars: []api.Var{{T: wide}, {T: integer}, {T: wide}}, Body: []api.Stmt{{X: make([]api.Expr, 1000), I: make([]int32, 1000), B: make([][]api.Stmt, 1000)}}})
}

// P21.1: ErrLimit of what isn't small, and of numbers out of their range.
func TestLimits(t *testing.T) {
	body := func(s api.Stmt) api.Module { return api.Module{Name: "M", Body: []api.Stmt{{B: [][]api.Stmt{{s}}}}} }
	expr := func(e api.Expr) api.Module { return body(api.Stmt{X: []api.Expr{{X: []api.Expr{e}}}}) }
	typ := func(t api.Type) api.Module {
		return api.Module{Procs: []api.Proc{{Params: []api.Param{{T: api.Type{Of: []api.Type{t}}}}}}}
	}
	for i, m := range []api.Module{
		{Name: strings.Repeat("n", 66)}, {Imports: make([]string, 1001)}, {Body: nested(65)}, expr(deep(64)), {Vars: []api.Var{{T: array(9)}}}, expr(api.Expr{S: strings.Repeat("s", 121)}),
		expr(api.Expr{Op: -1}), expr(api.Expr{Op: 1 << 31}), expr(api.Expr{Op: math.MinInt}), body(api.Stmt{Op: -1}), body(api.Stmt{Op: 1 << 31}), expr(api.Expr{T: api.Type{Form: -1}}),
		typ(api.Type{Form: -1}), typ(api.Type{Form: 1 << 31}), typ(api.Type{N: -1}), typ(api.Type{N: 1 << 31}), typ(api.Type{N: math.MaxInt}),
		{Names: []api.Var{{T: api.Type{N: -1}}}}, {Recs: []api.Rec{{Fields: []api.Var{{T: api.Type{N: -1}}}}}}, {Vars: []api.Var{{T: api.Type{N: -1}}}}, {Procs: []api.Proc{{Result: api.Type{N: -1}}}}, {Procs: []api.Proc{{Locals: []api.Var{{T: api.Type{Form: -1}}}}}}, {Procs: []api.Proc{{Ret: []api.Expr{{Op: -1}}}}}, {Consts: []api.Const{{E: api.Expr{Op: -1}}}},
	} {
		if b, err := Encode(m); err != api.ErrLimit || len(b) > 0 {
			t.Errorf("%d: %v", i, err)
		}
	}
}

// P21.1: ErrSize of a file that is too great.
func TestSize(t *testing.T) {
	text := func(i, j int) string {
		s := []byte(strings.Repeat("x", 120))
		copy(s, strconv.Itoa(i*1000+j))
		return string(s)
	}
	m := api.Module{Name: "M"}
	for i := range 150 {
		var x []api.Expr
		for j := range 1000 {
			x = append(x, api.Expr{S: text(i, j)})
		}
		m.Body = append(m.Body, api.Stmt{X: x})
	}
	if b, err := Encode(m); err != api.ErrSize || len(b) > 0 {
		t.Errorf("%v", err)
	}
	m.Body = m.Body[:20]
	there(t, "20", m)
}

// P21.1: box's errors, and what is no tree's file.
func TestBytes(t *testing.T) {
	b := there(t, "great", compiled(t, great, compiled(t, library)))
	_, payload, _ := box.Open(b)
	wrap := func(kind byte, payload []byte) []byte {
		b, _ := box.Wrap(kind, payload)
		return b
	}
	sum := bytes.Clone(b)
	sum[len(sum)-1] ^= 1
	none := func(what string, b []byte, want api.Errno) {
		t.Helper()
		m, err := Decode(b)
		if err != want || !reflect.DeepEqual(m, api.Module{}) {
			t.Errorf("%s: %v", what, err)
		}
		if n, err := Finger(b); err != want || n != 0 {
			t.Errorf("%s: Finger: %v", what, err)
		}
	}
	none("nothing", nil, api.ErrBytes)
	none("sum", sum, api.ErrSum)
	none("size", append([]byte("WAFR\x01"), 0xff, 0xff, 0xff, 0xff, 0x0f), api.ErrSize)
	none("no payload", wrap(1, nil), api.ErrBytes)
	for _, k := range []byte{0, 2, 255} {
		none("kind", wrap(k, payload), api.ErrBytes)
	}
	for n := range payload {
		none("cut", wrap(1, payload[:n]), api.ErrBytes)
	}
	none("more", wrap(1, append(bytes.Clone(payload), 0)), api.ErrBytes)
	none("more", wrap(1, append(bytes.Clone(payload), 1)), api.ErrBytes)
	none("noughts", wrap(1, make([]byte, 100000)), api.ErrBytes)
	none("ones", wrap(1, bytes.Repeat([]byte{0xff}, 100000)), api.ErrBytes)
}

// P21.1, P21.3: whatever bytes: an error, or a tree of which Encode tells just these; each tree of which has one file.
func TestChanged(t *testing.T) {
	r := rand.New(rand.NewSource(1))
	for _, m := range []api.Module{compiled(t, library), compiled(t, great, compiled(t, library)), {}, {Name: "M"}, {Imports: []string{"a", "b", "a"}}} {
		_, payload, _ := box.Open(there(t, "before", m))
		taken := 0
		look := func(p []byte) {
			b, _ := box.Wrap(1, p)
			got, err := Decode(b)
			if err != api.OK {
				if err != api.ErrBytes || !reflect.DeepEqual(got, api.Module{}) {
					t.Fatalf("%v of %x", err, p)
				}
				return
			}
			taken++
			if again, err := Encode(got); err != api.OK || !bytes.Equal(again, b) {
				t.Fatalf("%v: %x is told as %x", err, b, again)
			}
			if tree.Same(got, m) != bytes.Equal(p, payload) {
				t.Fatalf("two files of a tree: %x, %x", p, payload)
			}
		}
		for i := range 8 * len(payload) {
			p := bytes.Clone(payload)
			p[i/8] ^= 1 << (i % 8)
			look(p)
		}
		for range 3000 {
			p := bytes.Clone(payload)
			for range 1 + r.Intn(3) {
				if len(p) == 0 {
					break
				}
				switch i := r.Intn(len(p)); r.Intn(4) {
				case 0:
					p[i] = byte(r.Intn(256))
				case 1:
					p = append(p[:i], p[i+1:]...)
				case 2:
					p = append(p[:i], append([]byte{byte(r.Intn(256))}, p[i:]...)...)
				case 3:
					p = append(p[:i:i], p[r.Intn(len(p)):]...)
				}
			}
			look(p)
		}
		for range 3000 {
			p := make([]byte, r.Intn(30))
			r.Read(p)
			look(p)
		}
		if taken == 0 {
			t.Error("none is a tree's")
		}
	}
}

// P21.1: what is told twice of one tree is the same, and new memory.
func TestNewMemory(t *testing.T) {
	m := compiled(t, great, compiled(t, library))
	a, _ := Encode(m)
	b, _ := Encode(tree.Clone(m))
	if !bytes.Equal(a, b) {
		t.Error("unlike")
	}
	x, _ := Decode(a)
	clear(a)
	y, _ := Decode(b)
	x.Body[0].X[0].S, x.Vars[9].T.N = "changed", 99
	x.Recs[0].Fields[3].T.Of[0].N = 77
	if !tree.Same(y, m) {
		t.Error("changed with another one")
	}
	for _, e := range x.Body[2].X {
		if len(e.T.Of) > 0 {
			e.T.Of[0].N = 9
		}
	}
	z, _ := Decode(b)
	z.Names[0].T.Name = "z"
	for i := range z.Vars {
		if len(z.Vars[i].T.Of) > 0 {
			z.Vars[i].T.Of[0].Form = 77
			for j := range z.Vars {
				if j != i && len(z.Vars[j].T.Of) > 0 && z.Vars[j].T.Of[0].Form == 77 {
					t.Fatal("two lists share")
				}
			}
			z.Vars[i].T.Of[0].Form = api.Int
		}
	}
}

// P21.2: fingers.
func TestFinger(t *testing.T) {
	l := compiled(t, library)
	b, _ := Encode(l)
	if n, err := Finger(b); n != finger.Of(l) || err != api.OK {
		t.Errorf("%x, %v", n, err)
	}
	if n, err := Finger(b[1:]); n != 0 || err != api.ErrBytes {
		t.Errorf("%x, %v", n, err)
	}
	m := compiled(t, great, l)
	k := compiled(t, "MODULE K; CONST a* = 1; END K.")
	other := compiled(t, "MODULE L; CONST a* = 1; END L.")
	for i, x := range []struct {
		imports []string
		mods    []api.Module
		want    []uint64
	}{
		{m.Imports, []api.Module{k, l}, []uint64{0, 0, finger.Of(l)}},
		{m.Imports, []api.Module{other, l}, []uint64{0, 0, finger.Of(other)}},
		{m.Imports, nil, []uint64{0, 0, 0}},
		{nil, []api.Module{k, l}, nil},
		{[]string{"K", "Q", "L", "K", "Out", "M"}, []api.Module{{Name: "Out"}, k, l, other, m}, []uint64{finger.Of(k), 0, finger.Of(l), finger.Of(k), 0, finger.Of(m)}},
	} {
		m.Imports = x.imports
		if got := Imports(m, x.mods...); len(got) != len(x.want) || len(got) > 0 && !reflect.DeepEqual(got, x.want) {
			t.Errorf("%d: %x, want %x", i, got, x.want)
		}
	}
}
