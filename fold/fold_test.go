package fold

import (
	"math"
	"math/rand"
	"reflect"
	"slices"
	"testing"

	"wafer/api"
)

const (
	least = math.MinInt32
	most  = math.MaxInt32
)

// Constants and operators, as the tests write them.

func lit(form int, i int32) api.Expr {
	return api.Expr{Op: api.Lit, T: api.Type{Form: form}, I: i}
}
func num(i int32) api.Expr { return lit(api.Int, i) }
func set(i int32) api.Expr { return lit(api.Set, i) }
func op(o, form int, x ...api.Expr) api.Expr {
	return api.Expr{Op: o, T: api.Type{Form: form}, X: x}
}
func one(x api.Expr) api.Expr     { return api.Expr{Op: api.One, X: []api.Expr{x}} }
func span(x, y api.Expr) api.Expr { return api.Expr{Op: api.Span, X: []api.Expr{x, y}} }

var variable = api.Expr{Op: api.Name, T: api.Type{Form: api.Int}, S: "M.x"}

// unary are the operators of one, binary those of two.
var (
	unary  = []int{api.Neg, api.Not, api.Abs, api.Odd, api.Ord, api.Chr}
	binary = []int{api.Add, api.Sub, api.Mul, api.Div, api.Mod, api.Or, api.And, api.Eq, api.Ne, api.Lt, api.Le, api.Gt, api.Ge, api.In, api.Lsl, api.Asr, api.Ror}
)

// same tells whether two are alike; lists of none and nil are.
func same(a, b api.Expr) bool {
	if a.Op != b.Op || a.I != b.I || a.S != b.S || a.T.Form != b.T.Form || a.T.N != b.T.N || a.T.Name != b.T.Name || len(a.T.Of) != len(b.T.Of) {
		return false
	}
	return slices.EqualFunc(a.X, b.X, same)
}

// is checks what Expr tells of e.
func is(t *testing.T, e, want api.Expr) {
	t.Helper()
	if got, err := Expr(e); err != api.OK || !same(got, want) {
		t.Errorf("Expr(%+v): %+v, %v, want %+v", e, got, err, want)
	}
}

// no checks that Expr refuses e.
func no(t *testing.T, e api.Expr) {
	t.Helper()
	if got, err := Expr(e); err != api.ErrType || !reflect.DeepEqual(got, api.Expr{}) {
		t.Errorf("Expr(%+v): %+v, %v", e, got, err)
	}
}

// P13.1: Num and Is.
func TestNumIs(t *testing.T) {
	for form := -1; form < 12; form++ {
		e := Num(form, -7)
		if !reflect.DeepEqual(e, lit(form, -7)) {
			t.Errorf("Num(%d): %+v", form, e)
		}
		if Is(e) != slices.Contains([]int{api.Int, api.Char, api.Bool, api.Set}, form) {
			t.Errorf("Is(%d): %v", form, Is(e))
		}
		e.Op = api.Name
		if Is(e) {
			t.Errorf("Is of a name of %d", form)
		}
	}
	if Is(op(api.Add, api.Int, num(1), num(2))) || Is(api.Expr{Op: -1, T: api.Type{Form: api.Int}}) || Is(api.Expr{}) {
		t.Error("Is of others")
	}
}

// P13.1: of INTEGER.
func TestInts(t *testing.T) {
	for _, x := range []struct {
		op         int
		a, b, want int32
	}{
		{api.Add, 1, 2, 3}, {api.Add, most, 1, least}, {api.Sub, 1, 2, -1}, {api.Sub, least, 1, most}, {api.Mul, -3, 5, -15}, {api.Mul, 1 << 16, 1 << 16, 0},
		{api.Div, -7, 2, -4}, {api.Div, 7, 2, 3}, {api.Mod, -7, 2, 1}, {api.Mod, 7, 2, 1}, {api.Div, least, 1, least},
		{api.Lsl, 1, 31, least}, {api.Lsl, 1, 33, 2}, {api.Asr, -8, 1, -4}, {api.Asr, least, 31, -1}, {api.Ror, 1, 1, least}, {api.Ror, 8, -29, 1},
	} {
		is(t, op(x.op, api.Int, num(x.a), num(x.b)), num(x.want))
	}
	for _, b := range []int32{0, -1, least} {
		no(t, op(api.Div, api.Int, num(7), num(b)))
		no(t, op(api.Mod, api.Int, num(7), num(b)))
	}
	for _, x := range []struct {
		op, form int
		a, want  int32
	}{
		{api.Neg, api.Int, 5, -5}, {api.Neg, api.Int, least, least}, {api.Neg, api.Int, 0, 0}, {api.Abs, api.Int, -5, 5}, {api.Abs, api.Int, 5, 5}, {api.Abs, api.Int, least, least}, {api.Abs, api.Int, 0, 0},
		{api.Odd, api.Bool, 3, 1}, {api.Odd, api.Bool, -3, 1}, {api.Odd, api.Bool, 4, 0}, {api.Odd, api.Bool, least, 0}, {api.Odd, api.Bool, -2, 0},
		{api.Chr, api.Char, 0, 0}, {api.Chr, api.Char, 255, 255}, {api.Chr, api.Char, 65, 65},
	} {
		is(t, op(x.op, x.form, num(x.a)), lit(x.form, x.want))
	}
	for _, a := range []int32{-1, 256, least, most} {
		no(t, op(api.Chr, api.Char, num(a)))
	}
	for _, form := range []int{api.Char, api.Bool, api.Set} {
		is(t, op(api.Ord, api.Int, lit(form, 200)), num(200))
	}
	is(t, op(api.Ord, api.Int, set(-1)), num(-1))
}

// P13.1: of SET.
func TestSets(t *testing.T) {
	for _, x := range []struct {
		op         int
		a, b, want int32
	}{
		{api.Add, 12, 10, 14}, {api.Sub, 12, 10, 4}, {api.Mul, 12, 10, 8}, {api.Div, 12, 10, 6}, {api.Add, -1, 1, -1}, {api.Sub, -1, 1, -2}, {api.Div, -1, 1, -2}, {api.Div, 5, 0, 5}, {api.Div, 5, -1, -6},
	} {
		is(t, op(x.op, api.Set, set(x.a), set(x.b)), set(x.want))
	}
	is(t, op(api.Neg, api.Set, set(5)), set(-6))
	is(t, op(api.Neg, api.Set, set(-1)), set(0))
	for n := int32(-2); n < 35; n++ {
		want := int32(0)
		if n >= 0 && n < 32 && n%2 == 1 {
			want = 1
		}
		is(t, op(api.In, api.Bool, num(n), set(-0x55555556)), lit(api.Bool, want))
	}
	// These are as of INTEGER, whatever there is.
	is(t, op(api.Mod, api.Set, set(12), set(10)), set(2))
	no(t, op(api.Mod, api.Set, set(12), set(0)))
	is(t, op(api.Lsl, api.Set, set(1), set(2)), set(4))
	is(t, op(api.Abs, api.Set, set(-5)), set(5))
	// Which it is, X[0] tells.
	is(t, op(api.Add, api.Int, set(3), num(1)), num(3))
	is(t, op(api.Add, api.Set, num(3), set(1)), set(4))
	is(t, op(api.Neg, api.Set, num(5)), set(-5))
	is(t, op(api.Sub, api.Int, lit(api.Char, 3), num(1)), num(2))
}

// P13.1: sets of elements and spans.
func TestSetOf(t *testing.T) {
	for _, x := range []struct {
		l    []api.Expr
		want int32
	}{
		{nil, 0}, {[]api.Expr{one(num(0))}, 1}, {[]api.Expr{one(num(31))}, least}, {[]api.Expr{span(num(0), num(31))}, -1}, {[]api.Expr{span(num(3), num(2))}, 0}, {[]api.Expr{span(num(31), num(0))}, 0},
		{[]api.Expr{one(num(1)), span(num(3), num(5)), one(num(4)), one(num(1))}, 58}, {[]api.Expr{span(num(7), num(7))}, 128}, {[]api.Expr{one(lit(api.Char, 2))}, 4},
	} {
		is(t, op(api.SetOf, api.Set, x.l...), set(x.want))
	}
	for _, n := range []int32{-1, 32, most, least} {
		no(t, op(api.SetOf, api.Set, one(num(n))))
		no(t, op(api.SetOf, api.Set, one(num(1)), span(num(n), num(3))))
		no(t, op(api.SetOf, api.Set, span(num(3), num(n)), one(num(1))))
		no(t, op(api.SetOf, api.Set, span(num(n), num(n))))
		// What isn't known yet is left.
		e := op(api.SetOf, api.Set, one(num(n)), one(variable))
		is(t, e, e)
	}
}

// P13.1: of BOOLEAN, and relations.
func TestTruth(t *testing.T) {
	for _, x := range []struct {
		op         int
		a, b, want int32
	}{
		{api.And, 1, 1, 1}, {api.And, 1, 0, 0}, {api.And, 0, 1, 0}, {api.And, 0, 0, 0}, {api.And, 2, 4, 1}, {api.And, -1, 3, 1},
		{api.Or, 1, 1, 1}, {api.Or, 1, 0, 1}, {api.Or, 0, 1, 1}, {api.Or, 0, 0, 0}, {api.Or, 0, 8, 1}, {api.Or, 2, 4, 1},
	} {
		is(t, op(x.op, api.Bool, lit(api.Bool, x.a), lit(api.Bool, x.b)), lit(api.Bool, x.want))
	}
	for i, want := range map[int32]int32{0: 1, 1: 0, 2: 0, -1: 0} {
		is(t, op(api.Not, api.Bool, lit(api.Bool, i)), lit(api.Bool, want))
	}
	l := []int32{least, -1, 0, 1, 65, most}
	for i, a := range l {
		for j, b := range l {
			for o, holds := range map[int]bool{api.Eq: i == j, api.Ne: i != j, api.Lt: i < j, api.Le: i <= j, api.Gt: i > j, api.Ge: i >= j} {
				for _, form := range []int{api.Int, api.Char, api.Bool, api.Set} {
					want := int32(0)
					if holds {
						want = 1
					}
					is(t, op(o, api.Bool, lit(form, a), lit(form, b)), lit(api.Bool, want))
				}
			}
		}
	}
}

// P13.1: of each operator just as many as it has, all constants; else it is left as it is.
func TestLeft(t *testing.T) {
	for o := -2; o <= api.Eof+2; o++ {
		for n := range 4 {
			known := op(o, api.Int, slices.Repeat([]api.Expr{num(3)}, n)...)
			folds := n == 1 && slices.Contains(unary, o) || n == 2 && slices.Contains(binary, o) || n == 0 && o == api.SetOf
			want := known
			if folds {
				want, _ = Expr(known)
				if !Is(want) || want.T.Form != api.Int {
					t.Errorf("%d of %d: %+v", o, n, want)
				}
			}
			is(t, known, want)
			for at := range n {
				e := op(o, api.Int, slices.Repeat([]api.Expr{num(3)}, n)...)
				for _, x := range []api.Expr{variable, lit(api.Nil, 0), lit(api.Str, 0), lit(api.NoType, 0), op(api.Add, api.Int, num(1), num(2))} {
					e.X[at] = x
					is(t, e, e)
				}
			}
		}
	}
	for _, e := range []api.Expr{
		op(api.SetOf, api.Set, num(1)), op(api.SetOf, api.Set, one(num(1)), num(1)), op(api.SetOf, api.Set, one(variable)), op(api.SetOf, api.Set, span(num(1), variable)), op(api.SetOf, api.Set, span(variable, num(1))),
		op(api.SetOf, api.Set, op(api.One, 0)), op(api.SetOf, api.Set, op(api.One, 0, num(1), num(2))), op(api.SetOf, api.Set, op(api.Span, 0, num(1))), op(api.SetOf, api.Set, op(api.Span, 0, num(1), num(2), num(3))),
		op(api.SetOf, api.Set, op(api.SetOf, api.Set)), one(num(1)), span(num(1), num(2)),
	} {
		is(t, e, e)
	}
}

// P13.1: the answer is of e's form alone.
func TestForm(t *testing.T) {
	for form := -1; form < 12; form++ {
		e := op(api.Add, form, num(1), num(2))
		e.T.N, e.T.Name, e.S, e.I = 3, "x", "s", 9
		is(t, e, lit(form, 3))
	}
}

// P13.2: what is reckoned once stays as it is.
func TestOnce(t *testing.T) {
	chance := rand.New(rand.NewSource(131))
	for range 20000 {
		form := api.Int
		if chance.Intn(3) == 0 {
			form = api.Set
		}
		a, b := chance.Int31n(70)-20, chance.Int31n(70)-20
		e, err := Expr(op(binary[chance.Intn(len(binary))], form, lit(form, a), lit(form, b)))
		if err != api.OK {
			continue
		}
		is(t, e, e)
	}
}

// P13.1: what is handed in isn't changed, nor part of the answer.
func TestNewMemory(t *testing.T) {
	make := func() api.Expr {
		deep := api.Expr{Op: api.Index, T: api.Type{Form: api.Array, N: 2, Of: []api.Type{{Form: api.Array, N: 1, Of: []api.Type{{Form: api.Int}}}}}, X: []api.Expr{variable, num(1)}}
		return op(api.Add, api.Int, op(api.Neg, api.Int, deep), num(1))
	}
	e := make()
	got, _ := Expr(e)
	deep := got.X[0].X[0]
	deep.T.Of[0].Of[0].Form, deep.X[1].I = 99, 99
	deep.T.Of[0].Form = 99
	got.X[0].Op = 99
	_ = append(got.X[:1], num(77))
	if !reflect.DeepEqual(e, make()) {
		t.Errorf("%+v", e)
	}
	known := op(api.SetOf, api.Set, one(num(1)), span(num(2), num(3)))
	Expr(known)
	if !reflect.DeepEqual(known, op(api.SetOf, api.Set, one(num(1)), span(num(2), num(3)))) {
		t.Errorf("%+v", known)
	}
}
