package tree

import (
	"reflect"
	"slices"
	"strings"
	"testing"

	"wafer/api"
)

var integer = api.Type{Form: api.Int}

// lit tells a constant.
func lit(i int32) api.Expr { return api.Expr{T: integer, I: i} }

// op tells an operator's expression.
func op(o int, x ...api.Expr) api.Expr { return api.Expr{Op: o, T: integer, X: x} }

// deep tells an expression of so many in one another.
func deep(n int) api.Expr {
	e := lit(1)
	for range n - 1 {
		e = op(api.Add, lit(2), e)
	}
	return e
}

// array tells so many types in one another.
func array(n int) api.Type {
	t := integer
	for range n - 1 {
		t = api.Type{Form: api.Array, N: 1, Of: []api.Type{t}}
	}
	return t
}

// nested tells statements of so many in one another.
func nested(n int) []api.Stmt {
	var l []api.Stmt
	for range n {
		l = []api.Stmt{{Op: api.PutLn}, {Op: api.Repeat, X: []api.Expr{lit(1)}, B: [][]api.Stmt{nil, l}}}
	}
	return l
}

// full tells a module with something in each field.
func full() api.Module {
	v := func(name string) []api.Var {
		return []api.Var{{Name: name, Export: true, T: array(3)}, {Name: name + "2", T: api.Type{Form: api.Pointer, Name: "M.R", N: 1}}}
	}
	body := func() []api.Stmt {
		return []api.Stmt{{Op: api.If, X: []api.Expr{deep(3), lit(4)}, B: [][]api.Stmt{{{Op: api.PutLn, X: []api.Expr{lit(7)}}}, nested(2)}, I: []int32{1, 2, 3}}, {Op: api.PutStr, X: []api.Expr{{S: "abc", T: array(2), X: []api.Expr{lit(3)}}}}}
	}
	return api.Module{
		Name: "M", Imports: []string{"In", "Out"},
		Consts: []api.Const{{Name: "c", Export: true, E: deep(2)}, {Name: "d", E: lit(2)}},
		Names:  v("n"),
		Recs:   []api.Rec{{Name: "R", Export: true, Base: "M.B", Fields: v("f")}, {Name: "S"}},
		Vars:   v("v"),
		Procs: []api.Proc{{Name: "p", Export: true, Params: []api.Param{{Name: "a", Ref: true, T: array(2)}, {Name: "b"}}, Result: array(2), Locals: v("l"), Body: body(), Ret: []api.Expr{deep(2)}},
			{Name: "q"}},
		Body: body(),
	}
}

// leaves calls f with each number, string, bool and list in v (which may be changed), and what undoes nothing: f does it.
func leaves(v reflect.Value, f func(reflect.Value)) {
	switch v.Kind() {
	case reflect.Struct:
		for i := range v.NumField() {
			leaves(v.Field(i), f)
		}
	case reflect.Slice:
		for i := range v.Len() {
			leaves(v.Index(i), f)
		}
		f(v)
	default:
		f(v)
	}
}

// other tells another value in v's place.
func other(v reflect.Value) reflect.Value {
	n := reflect.New(v.Type()).Elem()
	switch v.Kind() {
	case reflect.Bool:
		n.SetBool(!v.Bool())
	case reflect.Int, reflect.Int32:
		n.SetInt(v.Int() + 1)
	case reflect.String:
		n.SetString(v.String() + "x")
	case reflect.Slice:
		n = reflect.AppendSlice(n, v)
		n = reflect.Append(n, reflect.New(v.Type().Elem()).Elem())
	}
	return n
}

// P14.1: a module is the same as one alike, and not as one with anything else in it.
func TestSame(t *testing.T) {
	a, b := full(), full()
	if !Same(a, b) || !Same(api.Module{}, api.Module{}) || Same(a, api.Module{}) || Same(api.Module{}, a) {
		t.Error("Same")
	}
	count := 0
	leaves(reflect.ValueOf(&b).Elem(), func(v reflect.Value) {
		count++
		old := reflect.New(v.Type()).Elem()
		old.Set(v)
		v.Set(other(v))
		if Same(a, b) || Same(b, a) {
			t.Errorf("%d, a %s: the same", count, v.Type())
		}
		v.Set(old)
		if v.Kind() == reflect.Slice && v.Len() > 0 {
			v.Set(v.Slice(0, v.Len()-1))
			if Same(a, b) || Same(b, a) {
				t.Errorf("%d, a %s: the same without the last one", count, v.Type())
			}
			v.Set(old)
		}
		if v.Kind() == reflect.Slice && v.Len() == 0 {
			v.Set(reflect.MakeSlice(v.Type(), 0, 3))
			if !Same(a, b) || !Same(b, a) {
				t.Errorf("%d, a %s: empty isn't nil", count, v.Type())
			}
		}
	})
	if count < 300 || !Same(a, b) {
		t.Errorf("%d", count)
	}
}

// P14.1: of expressions and statements alone.
func TestSameParts(t *testing.T) {
	a, b := deep(4), deep(4)
	if !SameExpr(a, b) || SameExpr(a, deep(5)) || !SameBody(full().Body, full().Body) || SameBody(full().Body, nil) || !SameBody(nil, []api.Stmt{}) {
		t.Error("Same")
	}
	leaves(reflect.ValueOf(&b).Elem(), func(v reflect.Value) {
		old := reflect.New(v.Type()).Elem()
		old.Set(v)
		v.Set(other(v))
		if SameExpr(a, b) || SameBody([]api.Stmt{{X: []api.Expr{a}}}, []api.Stmt{{X: []api.Expr{b}}}) {
			t.Errorf("a %s: the same", v.Type())
		}
		v.Set(old)
	})
}

// P14.1, P14.3: a clone is the same, and shares nothing.
func TestClone(t *testing.T) {
	for _, m := range []api.Module{full(), {}, {Imports: []string{}, Body: []api.Stmt{}}} {
		c := Clone(m)
		if !Same(c, m) {
			t.Fatal("another one")
		}
		leaves(reflect.ValueOf(&c).Elem(), func(v reflect.Value) {
			if v.Kind() != reflect.Slice {
				v.Set(other(v))
			} else {
				reflect.Append(v, reflect.New(v.Type().Elem()).Elem())
			}
		})
	}
	m := full()
	c := Clone(m)
	leaves(reflect.ValueOf(&c).Elem(), func(v reflect.Value) {
		if v.Kind() != reflect.Slice {
			v.Set(other(v))
		}
	})
	if !Same(m, full()) {
		t.Error("changed with its clone")
	}
	shared := full()
	list := shared.Procs[0].Body
	shared.Body = list
	c = Clone(shared)
	c.Body[0].Op = 99
	if c.Procs[0].Body[0].Op == 99 {
		t.Error("two lists of one clone share")
	}
}

// P14.1: the spare room behind lists isn't touched.
func TestCloneRoom(t *testing.T) {
	m := full()
	room := append(m.Body, api.Stmt{Op: 77})
	m.Body = room[:2]
	c := Clone(m)
	_ = append(c.Body, api.Stmt{Op: 88})
	if room[2].Op != 77 {
		t.Error("changed")
	}
}

// P14.1: depths and nestings.
func TestDepthNest(t *testing.T) {
	for _, n := range []int{1, 2, 3, 64, 65, 1000} {
		if got := Depth(deep(n)); got != n {
			t.Errorf("Depth: %d, want %d", got, n)
		}
		if got := Nest(nested(n)); got != n {
			t.Errorf("Nest: %d, want %d", got, n)
		}
	}
	if d := Depth(op(api.Add, deep(3), deep(5))); d != 6 {
		t.Errorf("%d", d)
	}
	if d := Depth(op(api.Add, deep(5), deep(3))); d != 6 {
		t.Errorf("%d", d)
	}
	if d := Depth(op(api.Add, lit(1), lit(2))); d != 2 {
		t.Errorf("%d", d)
	}
	if n := Nest(nil); n != 0 {
		t.Errorf("%d", n)
	}
	if n := Nest([]api.Stmt{{Op: api.If, B: [][]api.Stmt{nil, {}}}}); n != 1 {
		t.Errorf("%d", n)
	}
	if n := Nest([]api.Stmt{{B: [][]api.Stmt{nested(4), nested(2)}}, {B: [][]api.Stmt{nested(3)}}}); n != 5 {
		t.Errorf("%d", n)
	}
}

// P14.2: how many there are, wherever they are.
func TestCount(t *testing.T) {
	for i, x := range []struct {
		m            api.Module
		exprs, stmts int
	}{
		{api.Module{}, 0, 0},
		{api.Module{Consts: []api.Const{{E: lit(1)}, {E: deep(3)}}}, 6, 0},
		{api.Module{Body: nested(3)}, 3, 6},
		{api.Module{Procs: []api.Proc{{Ret: []api.Expr{deep(2)}}, {Body: nested(1), Ret: []api.Expr{lit(1)}}}}, 5, 2},
		{api.Module{Body: []api.Stmt{{X: []api.Expr{lit(1), deep(4)}, B: [][]api.Stmt{{{X: []api.Expr{lit(1)}}}, nil, {{}, {}}}}}}, 9, 4},
		{full(), 3 + 1 + 2*(5+1+1+2+2) + 3, 2 * 7},
	} {
		if exprs, stmts := Count(x.m); exprs != x.exprs || stmts != x.stmts {
			t.Errorf("%d: %d, %d, want %d, %d", i, exprs, stmts, x.exprs, x.stmts)
		}
	}
}

// P14.2: a module at all limits is small.
func TestSmallAtLimits(t *testing.T) {
	for i, m := range []api.Module{
		{}, full(),
		{Name: strings.Repeat("n", 65), Imports: []string{strings.Repeat("i", 65)}},
		{Body: nested(64)}, {Procs: []api.Proc{{Body: nested(64), Ret: []api.Expr{deep(64)}}}},
		{Consts: []api.Const{{E: deep(64)}}}, {Body: []api.Stmt{{X: []api.Expr{deep(64)}}}},
		{Vars: []api.Var{{T: array(8)}}}, {Body: []api.Stmt{{X: []api.Expr{{T: array(8), S: strings.Repeat("s", 120)}}}}},
		{Body: []api.Stmt{{X: make([]api.Expr, 1000), B: make([][]api.Stmt, 1000), I: make([]int32, 1000)}}},
		{Imports: make([]string, 1000), Consts: make([]api.Const, 1000), Names: make([]api.Var, 1000), Recs: make([]api.Rec, 1000), Vars: make([]api.Var, 1000), Procs: make([]api.Proc, 1000), Body: make([]api.Stmt, 1000)},
		{Recs: []api.Rec{{Base: strings.Repeat("b", 65), Fields: make([]api.Var, 1000)}}},
		{Procs: []api.Proc{{Params: make([]api.Param, 1000), Locals: make([]api.Var, 1000), Body: make([]api.Stmt, 1000), Ret: make([]api.Expr, 1000)}}},
		{Vars: []api.Var{{T: api.Type{Form: 77, N: -1 << 60, Of: make([]api.Type, 1000)}}}},
	} {
		if !Small(m) {
			t.Errorf("%d: isn't small", i)
		}
	}
}

// grow tells what is one past a limit in v's place, or false.
func grow(v reflect.Value, field string) (reflect.Value, bool) {
	n := reflect.New(v.Type()).Elem()
	switch {
	case v.Kind() == reflect.Slice:
		l := reflect.MakeSlice(v.Type(), 1001, 1001)
		reflect.Copy(l, v)
		return l, true
	case v.Kind() == reflect.String && field == "S":
		n.SetString(strings.Repeat("s", 121))
		return n, true
	case v.Kind() == reflect.String:
		n.SetString(strings.Repeat("n", 66))
		return n, true
	}
	return n, false
}

// walk calls f with each value in v, and the field's name that it is in.
func walk(v reflect.Value, field string, f func(reflect.Value, string)) {
	switch v.Kind() {
	case reflect.Struct:
		for i := range v.NumField() {
			walk(v.Field(i), v.Type().Field(i).Name, f)
		}
	case reflect.Slice:
		for i := range v.Len() {
			walk(v.Index(i), field, f)
		}
	}
	f(v, field)
}

// P14.2: one past a limit anywhere isn't small.
func TestSmallPastLimits(t *testing.T) {
	m := full()
	count := 0
	walk(reflect.ValueOf(&m).Elem(), "", func(v reflect.Value, field string) {
		var much []reflect.Value
		if g, ok := grow(v, field); ok {
			much = append(much, g)
		}
		switch v.Interface().(type) {
		case api.Type:
			much = append(much, reflect.ValueOf(array(9)))
		case api.Expr:
			much = append(much, reflect.ValueOf(deep(65)), reflect.ValueOf(api.Expr{X: []api.Expr{{}, deep(64)}}))
		case []api.Stmt:
			much = append(much, reflect.ValueOf(nested(65)))
		}
		for _, g := range much {
			count++
			old := reflect.New(v.Type()).Elem()
			old.Set(v)
			v.Set(g)
			if Small(m) {
				t.Errorf("%s, a %s: small", field, v.Type())
			}
			v.Set(old)
		}
	})
	if count < 200 || !Small(m) {
		t.Errorf("%d", count)
	}
}

// P14.2: nesting is counted of a procedure, of the body, whole; depth of what is in no other one.
func TestSmallWhole(t *testing.T) {
	inner := []api.Stmt{{Op: api.If, X: []api.Expr{deep(64)}, B: [][]api.Stmt{nested(63)}}}
	if !Small(api.Module{Body: inner}) || !Small(api.Module{Procs: []api.Proc{{Body: inner}}}) {
		t.Error("64")
	}
	outer := []api.Stmt{{Op: api.If, B: [][]api.Stmt{nil, inner}}}
	if Small(api.Module{Body: outer}) || Small(api.Module{Procs: []api.Proc{{Body: outer}}}) {
		t.Error("65")
	}
	wide := slices.Repeat([]api.Expr{deep(63)}, 1000)
	if !Small(api.Module{Body: []api.Stmt{{X: []api.Expr{{X: wide}}}}}) {
		t.Error("wide")
	}
}

// P14.2: what isn't a name or a string has no limit here.
func TestSmallOthers(t *testing.T) {
	m := full()
	walk(reflect.ValueOf(&m).Elem(), "", func(v reflect.Value, field string) {
		switch v.Kind() {
		case reflect.Int:
			v.SetInt(-1 << 62)
		case reflect.Int32:
			v.SetInt(-1 << 31)
		case reflect.String:
			v.SetString("\x00\xff\"")
		}
	})
	if !Small(m) {
		t.Error("isn't small")
	}
}
