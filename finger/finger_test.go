package finger

import (
	"hash/fnv"
	"reflect"
	"strings"
	"testing"

	"wafer/api"
	"wafer/sample"
	"wafer/tree"
)

const library = `MODULE L; IMPORT In, Out;
CONST k* = -5; hidden = 1; s* = "a 'b'"; c* = 41X; t* = {0, 31}; b* = TRUE; empty* = "";
TYPE A* = ARRAY 3 OF ARRAY 4 OF CHAR; H = RECORD END; R* = RECORD (H) x: INTEGER; p, q: POINTER TO H END; P* = POINTER TO R; E* = RECORD END; I = SET;
VAR v*, w: INTEGER; r*: R; u*: BOOLEAN;
PROCEDURE none*; BEGIN v := 1 END none;
PROCEDURE f*(a: INTEGER; VAR x, y: A; p: P): P; VAR l: INTEGER; RETURN p END f;
PROCEDURE g(): INTEGER; RETURN w END g;
PROCEDURE h*(VAR c1: CHAR); END h;
BEGIN v := 3; Out.Int(w)
END L.`

// P18.1: what is exported, in order.
func TestText(t *testing.T) {
	want := `MODULE L
CONST k = INTEGER -5
CONST s = STRING "a 'b'"
CONST c = CHAR 65
CONST t = SET -2147483647
CONST b = BOOLEAN 1
CONST empty = STRING ""
TYPE A = ARRAY 3 OF ARRAY 4 OF CHAR
TYPE P = POINTER TO L.R
RECORD R (L.H) x: INTEGER p: POINTER TO L.H q: POINTER TO L.H
RECORD E ()
VAR v: INTEGER
VAR r: L.R
VAR u: BOOLEAN
PROCEDURE none ()
PROCEDURE f (INTEGER, VAR ARRAY 3 OF ARRAY 4 OF CHAR, VAR ARRAY 3 OF ARRAY 4 OF CHAR, POINTER TO L.R): POINTER TO L.R
PROCEDURE h (VAR CHAR)
`
	m := sample.Trees(library)[0]
	if got := Text(m); got != want {
		t.Errorf("%s", got)
	}
	if got := Text(api.Module{}); got != "MODULE \n" {
		t.Errorf("%q", got)
	}
}

// P18.1: strings are told as strconv's Quote tells them, whatever they are; so is what no source has.
func TestStrangers(t *testing.T) {
	integer := api.Type{Form: api.Int}
	m := api.Module{Name: "M",
		Consts: []api.Const{{Name: "a", Export: true, E: api.Expr{Op: api.Add, T: api.Type{Form: api.Str}, I: 7, S: "\"\n\xff\\é"}}, {Name: "b", Export: true, E: api.Expr{T: api.Type{Form: 77}, I: -1 << 31}}},
		Recs:   []api.Rec{{Name: "R", Export: true, Base: "x", Fields: []api.Var{{Name: "f", T: api.Type{}}}}},
		Procs:  []api.Proc{{Name: "p", Export: true, Params: []api.Param{{T: api.Type{Form: api.Array, N: -1}}, {Ref: true, T: api.Type{Form: api.Str}}}, Result: api.Type{Form: -1}}, {Name: "q", Export: true, Result: api.Type{N: 3}, Params: []api.Param{{Name: "a", T: integer}, {Name: "b", T: integer}}}},
	}
	want := "MODULE M\nCONST a = STRING \"\\\"\\n\\xff\\\\é\"\nCONST b =  -2147483648\nRECORD R (x) f: \nPROCEDURE p (ARRAY -1 OF , VAR STRING): \nPROCEDURE q (INTEGER, INTEGER)\n"
	before := tree.Clone(m)
	if got := Text(m); got != want {
		t.Errorf("%q", got)
	}
	if !tree.Same(m, before) {
		t.Error("changed")
	}
	deep := integer
	for range 999 {
		deep = api.Type{Form: api.Array, N: 1, Of: []api.Type{deep}}
	}
	if got := Text(api.Module{Name: "M", Vars: []api.Var{{Name: "v", Export: true, T: deep}}}); got != "MODULE M\nVAR v: "+strings.Repeat("ARRAY 1 OF ", 999)+"INTEGER\n" {
		t.Errorf("%.100s", got)
	}
}

// P18.2: FNV-1a.
func TestSum(t *testing.T) {
	for s, want := range map[string]uint64{"": 0xcbf29ce484222325, "a": 0xaf63dc4c8601ec8c, "foobar": 0x85944171f73967e8} {
		if got := Sum(s); got != want {
			t.Errorf("%q: %x", s, got)
		}
	}
	for _, s := range []string{"\x00\xff\x80", strings.Repeat("wafer", 1000), Text(sample.Trees(library)[0])} {
		h := fnv.New64a()
		h.Write([]byte(s))
		if got := Sum(s); got != h.Sum64() {
			t.Errorf("%.20q: %x", s, got)
		}
	}
	m := sample.Trees(library)[0]
	if Of(m) != Sum(Text(m)) || Of(api.Module{}) != Sum("MODULE \n") {
		t.Error("Of")
	}
}

// P18.3: what isn't exported says nothing; all that is does.
func TestHidden(t *testing.T) {
	m := sample.Trees(library)[0]
	change := func(f func(m *api.Module)) bool {
		c := tree.Clone(m)
		f(&c)
		return Of(c) != Of(m)
	}
	for i, f := range []func(m *api.Module){
		func(m *api.Module) { m.Imports = nil },
		func(m *api.Module) { m.Consts[1].E.I = 9 },
		func(m *api.Module) { m.Names[2].T.Form = api.Int },
		func(m *api.Module) { m.Recs[0].Fields = []api.Var{{Name: "z"}} },
		func(m *api.Module) { m.Vars[1].T.Form = api.Char },
		func(m *api.Module) { m.Vars = append(m.Vars, api.Var{Name: "more"}) },
		func(m *api.Module) { m.Procs[2].Params = []api.Param{{Name: "z"}} },
		func(m *api.Module) { m.Procs[1].Body, m.Procs[0].Body, m.Body = nil, nil, nil },
		func(m *api.Module) { m.Procs[1].Locals, m.Procs[1].Ret = nil, nil },
		func(m *api.Module) { m.Procs[1].Params[0].Name = "other" },
		func(m *api.Module) { m.Recs[1].Fields[0].Export = true },
	} {
		if change(f) {
			t.Errorf("%d says something", i)
		}
	}
	for i, f := range []func(m *api.Module){
		func(m *api.Module) { m.Name = "K" },
		func(m *api.Module) { m.Consts[0].E.I = 9 },
		func(m *api.Module) { m.Consts[0].Name = "z" },
		func(m *api.Module) { m.Consts[1].Export = true },
		func(m *api.Module) { m.Consts[2].E.S = "a" },
		func(m *api.Module) { m.Consts[0].E.T.Form = api.Set },
		func(m *api.Module) { m.Names[0].T.N = 9 },
		func(m *api.Module) { m.Recs[1].Base = "" },
		func(m *api.Module) { m.Recs[1].Fields[0].Name = "z" },
		func(m *api.Module) { m.Recs[1].Fields[0].T.Form = api.Set },
		func(m *api.Module) { m.Vars[0].T.Form = api.Set },
		func(m *api.Module) { m.Vars[0].Export = false },
		func(m *api.Module) { m.Procs[1].Params[0].T.Form = api.Set },
		func(m *api.Module) { m.Procs[1].Params[0].Ref = true },
		func(m *api.Module) { m.Procs[1].Params = m.Procs[1].Params[1:] },
		func(m *api.Module) { m.Procs[1].Result = api.Type{} },
		func(m *api.Module) { m.Procs[0], m.Procs[1] = m.Procs[1], m.Procs[0] },
	} {
		if !change(f) {
			t.Errorf("%d says nothing", i)
		}
	}
	if !reflect.DeepEqual(m, sample.Trees(library)[0]) {
		t.Error("changed")
	}
}
