package need

import (
	"strings"
	"testing"

	"wafer/api"
	"wafer/front"
	"wafer/tree"
)

var integer = api.Type{Form: api.Int}

// num tells a constant.
func num() api.Expr { return api.Expr{T: integer} }

// op tells an operator's expression.
func op(x ...api.Expr) api.Expr { return api.Expr{Op: api.Add, T: integer, X: x} }

// needs tells an expression of so many registers.
func needs(n int) api.Expr {
	e := num()
	for range n - 1 {
		e = op(num(), e)
	}
	return e
}

// regs tells a module that needs so many registers.
func regs(name string, n int) api.Module {
	return api.Module{Name: name, Body: []api.Stmt{{X: []api.Expr{needs(n)}}}}
}

// array tells an array.
func array(n int, t api.Type) api.Type {
	return api.Type{Form: api.Array, N: n, Of: []api.Type{t}}
}

// rec tells a record's type.
func rec(s string) api.Type { return api.Type{Form: api.Record, Name: s} }

// P22.1: registers.
func TestRegs(t *testing.T) {
	for i, x := range []struct {
		e    api.Expr
		want int
	}{
		{num(), 1}, {op(), 1}, {op(num()), 1}, {op(num(), num()), 2}, {op(op(num(), num()), num()), 2}, {op(num(), op(num(), num())), 3}, {op(num(), num(), num()), 3}, {op(needs(5), num()), 5}, {op(needs(5), num(), num()), 5}, {op(num(), needs(5), num()), 6}, {op(num(), num(), num(), num()), 4}, {op(needs(3), needs(3), needs(3)), 5}, {op(op(needs(9))), 9}, {needs(1000), 1000},
	} {
		if got := Regs(x.e); got != x.want {
			t.Errorf("%d: %d, want %d", i, got, x.want)
		}
	}
}

// P22.1: the most of all expressions of procedures and the body, not of constants.
func TestMost(t *testing.T) {
	in := func(n int) []api.Stmt {
		return []api.Stmt{{X: []api.Expr{num()}}, {X: []api.Expr{num(), needs(n)}, B: [][]api.Stmt{nil, {{X: []api.Expr{num()}}}}}}
	}
	for i, x := range []struct {
		m    api.Module
		want int
	}{
		{api.Module{}, 0}, {api.Module{Consts: []api.Const{{E: needs(9)}}}, 0}, {api.Module{Body: in(4)}, 4}, {api.Module{Body: []api.Stmt{{B: [][]api.Stmt{nil, {{B: [][]api.Stmt{in(7)}}}}}}}, 7}, {api.Module{Procs: []api.Proc{{Body: in(3)}, {Ret: []api.Expr{needs(5)}}, {}}}, 5}, {api.Module{Body: in(2), Procs: []api.Proc{{}, {Body: in(6)}}}, 6}, {api.Module{Body: []api.Stmt{{}}}, 0},
	} {
		if got := Most(x.m); got != x.want {
			t.Errorf("%d: %d, want %d", i, got, x.want)
		}
	}
}

// P22.1: units.
func TestUnits(t *testing.T) {
	str := func(n int) api.Expr { return api.Expr{S: strings.Repeat("x", n)} }
	for i, x := range []struct {
		m    api.Module
		want int
	}{
		{api.Module{}, 0}, {api.Module{Name: "abc", Imports: []string{"In"}, Names: make([]api.Var, 3), Vars: make([]api.Var, 3)}, 0}, {api.Module{Consts: []api.Const{{E: needs(2)}, {E: str(5)}}}, 3 + 6}, {api.Module{Recs: []api.Rec{{Fields: make([]api.Var, 4)}, {}}}, 2}, {api.Module{Procs: []api.Proc{{Params: make([]api.Param, 3), Locals: make([]api.Var, 9)}, {Params: make([]api.Param, 1), Ret: []api.Expr{str(2)}}}}, 2 + 4 + 3}, {api.Module{Body: []api.Stmt{{I: []int32{1, 2, 3}, X: []api.Expr{op(str(1), op(str(2)))}, B: [][]api.Stmt{{{I: []int32{0}}, {X: []api.Expr{num()}}}, nil}}}}, 3 + 3 + 1 + 4 + 1 + 3}, {api.Module{Procs: []api.Proc{{Body: []api.Stmt{{I: []int32{1}, X: []api.Expr{str(9)}}}}}}, 1 + 1 + 1 + 1 + 9},
	} {
		if got := Units(x.m); got != x.want {
			t.Errorf("%d: %d, want %d", i, got, x.want)
		}
	}
	m, _ := front.Compile("MODULE M; VAR i: INTEGER; PROCEDURE p(a: INTEGER); BEGIN i := a END p; BEGIN p(1 + i) END M.")
	if got := Units(m); got != 1+1+(1+2+3+1)+(1+4+3+3) {
		t.Errorf("%d", got)
	}
}

// P22.1: words of variables.
func TestSize(t *testing.T) {
	l := api.Module{Name: "L", Recs: []api.Rec{{Name: "R", Fields: []api.Var{{T: array(3, integer)}}}, {Name: "S", Base: "L.R", Fields: []api.Var{{T: integer}}}}}
	other := api.Module{Name: "L", Recs: []api.Rec{{Name: "R"}, {Name: "Q"}}}
	m := func(l ...api.Type) api.Module {
		m := api.Module{Name: "M", Recs: []api.Rec{{Name: "T", Base: "L.S", Fields: []api.Var{{T: integer}}}}}
		for _, t := range l {
			m.Vars = append(m.Vars, api.Var{T: t})
		}
		return m
	}
	for i, x := range []struct {
		m    api.Module
		mods []api.Module
		want int
		ok   bool
	}{
		{m(), nil, 0, true}, {m(integer, array(5, integer)), nil, 6, true}, {m(rec("M.T")), []api.Module{l}, 5, true}, {m(rec("M.T"), rec("L.R")), []api.Module{l, other}, 8, true}, {m(rec("M.T")), []api.Module{other, l}, 0, false}, {m(rec("L.R")), []api.Module{other, l}, 0, true}, {m(rec("L.Q")), []api.Module{l, other}, 0, false}, {m(rec("M.T")), nil, 0, false}, {m(integer, api.Type{}), nil, 0, false}, {m(array(2, array(3, rec("L.S")))), []api.Module{l}, 24, true}, {m(integer, array(2, rec("L.Q"))), []api.Module{l}, 0, false}, {m(api.Type{Form: api.Pointer, Name: "L.Q"}), nil, 1, true}, {m(api.Type{Form: api.Array, N: 2, Of: []api.Type{integer, rec("L.R")}}), []api.Module{l}, 0, false}, {m(rec("M.T")), []api.Module{{Name: "M"}, l}, 5, true}, {m(array(1024, array(16, integer)), array(1024, array(16, integer))), nil, 32768, true}, {m(array(1024, array(17, integer))), nil, 0, false},
	} {
		before := tree.Clone(x.m)
		if got, ok := Size(x.m, x.mods...); got != x.want || ok != x.ok {
			t.Errorf("%d: %d, %v, want %d", i, got, ok, x.want)
		}
		if !tree.Same(x.m, before) {
			t.Errorf("%d: changed", i)
		}
	}
}

// P22.1: what both targets can bear, at each limit and one past it.
func TestCheck(t *testing.T) {
	words := func(name string, n int) api.Module {
		return api.Module{Name: name, Vars: []api.Var{{T: array(n/16, array(16, integer))}}}
	}
	units := func(name string, n int) api.Module {
		m := api.Module{Name: name}
		for range n / 1000 {
			m.Body = append(m.Body, api.Stmt{I: make([]int32, 999)})
		}
		m.Body = append(m.Body, make([]api.Stmt, n%1000)...)
		return m
	}
	ring := api.Module{Name: "A", Vars: []api.Var{{T: rec("B.R")}}}
	for i, x := range []struct {
		l    []api.Module
		want api.Errno
	}{
		{nil, api.OK}, {[]api.Module{{}}, api.OK}, {[]api.Module{regs("A", 12), regs("B", 12)}, api.OK}, {[]api.Module{regs("A", 12), regs("B", 13)}, api.ErrRegs},
		{[]api.Module{words("A", 8192), words("B", 8192)}, api.OK}, {[]api.Module{words("A", 8192), words("B", 8208)}, api.ErrWords}, {[]api.Module{words("A", 16384)}, api.OK},
		{[]api.Module{units("A", 4000), units("B", 4000)}, api.OK}, {[]api.Module{units("A", 4000), units("B", 4001)}, api.ErrWords}, {[]api.Module{units("A", 8001)}, api.ErrWords}, {[]api.Module{units("A", 8000)}, api.OK},
		{[]api.Module{ring}, api.ErrWords}, {[]api.Module{ring, {Name: "B", Recs: []api.Rec{{Name: "R"}}}}, api.OK}, {[]api.Module{ring, {Name: "B"}, {Name: "B", Recs: []api.Rec{{Name: "R"}}}}, api.ErrWords},
		{[]api.Module{ring, regs("B", 13)}, api.ErrRegs}, {[]api.Module{units("A", 9000), regs("B", 13)}, api.ErrRegs},
		{[]api.Module{units("A", 4000), units("A", 4000)}, api.OK}, {[]api.Module{units("A", 4000), units("A", 4001)}, api.ErrWords}, {[]api.Module{units("A", 1), units("B", 0), units("A", 8000)}, api.ErrWords},
		{[]api.Module{words("A", 8192), words("A", 8192)}, api.OK}, {[]api.Module{words("A", 8192), words("A", 8208)}, api.ErrWords},
		{[]api.Module{regs("A", 12), regs("A", 12)}, api.OK}, {[]api.Module{regs("A", 12), regs("A", 13)}, api.ErrRegs}, {[]api.Module{words("A", 16384), words("A", 16384), regs("A", 13), units("A", 8001)}, api.ErrRegs},
		{[]api.Module{{Name: "A"}, ring}, api.ErrWords}, {[]api.Module{{Name: "A"}, ring, {Name: "B", Recs: []api.Rec{{Name: "R"}}}}, api.OK}, {[]api.Module{ring, {Name: "B", Recs: []api.Rec{{Name: "R"}}}, {Name: "A", Vars: []api.Var{{T: rec("A.R")}}}}, api.ErrWords},
	} {
		if got := Check(x.l...); got != x.want {
			t.Errorf("%d: %v, want %v", i, got, x.want)
		}
	}
}

// P22.1: also of very many modules all count.
func TestMany(t *testing.T) {
	for _, more := range []string{"", "x"} {
		var l []api.Module
		name := ""
		for range 8000 {
			l = append(l, api.Module{Name: name, Vars: []api.Var{{T: integer}}, Body: make([]api.Stmt, 1)})
			if len(name) < 40 {
				name += more
			}
		}
		if got := Check(l...); got != api.OK {
			t.Errorf("8000 of %q: %v", more, got)
		}
		if got := Check(append(l, api.Module{Recs: make([]api.Rec, 1)})...); got != api.ErrWords {
			t.Errorf("8001 of %q: %v", more, got)
		}
		if got := Check(append(l, regs("", 13))...); got != api.ErrRegs {
			t.Errorf("13 registers behind 8000 of %q: %v", more, got)
		}
	}
}
