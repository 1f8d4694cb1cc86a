package types

import (
	"maps"
	"math"
	"math/rand"
	"reflect"
	"strconv"
	"testing"

	"wafer/api"
)

// Types, as the tests write them.

func arr(n int, of ...api.Type) api.Type { return api.Type{Form: api.Array, N: n, Of: of} }
func rec(name string) api.Type           { return api.Type{Form: api.Record, Name: name} }
func ptr(name string) api.Type           { return api.Type{Form: api.Pointer, Name: name} }

var (
	integer = api.Type{Form: api.Int}
	char    = api.Type{Form: api.Char}
	boolean = api.Type{Form: api.Bool}
	set     = api.Type{Form: api.Set}
	null    = api.Type{Form: api.Nil}
	str     = api.Type{Form: api.Str}
	none    = api.Type{}
)

// fields tells fields f0, f1 .. of these types.
func fields(l ...api.Type) []api.Var {
	var v []api.Var
	for i, t := range l {
		v = append(v, api.Var{Name: "f" + strconv.Itoa(i), T: t})
	}
	return v
}

// records are some records, good and bad.
func records() map[string]api.Rec {
	return map[string]api.Rec{
		"M.E": {},
		"M.A": {Fields: fields(integer, char)},
		"M.B": {Base: "M.A", Fields: fields(arr(3, set), ptr("M.Gone"))},
		"M.C": {Base: "M.B", Fields: []api.Var{{Name: "x", Export: true, T: rec("M.A")}}},
		"M.D": {Base: "M.E"},
		// Bases that go round, or aren't there.
		"R.A": {Base: "R.B"}, "R.B": {Base: "R.A"}, "R.C": {Base: "R.A"}, "R.S": {Base: "R.S"},
		"G.A": {Base: "G.Gone"}, "G.B": {Base: "G.A", Fields: fields(integer)},
		// Records in themselves.
		"S.A": {Fields: fields(rec("S.A"))}, "S.B": {Fields: fields(arr(2, rec("S.C")))}, "S.C": {Fields: fields(rec("S.B"))},
		"S.D": {Base: "S.E"}, "S.E": {Fields: fields(rec("S.D"))}, "S.P": {Fields: fields(ptr("S.P"), integer)},
		// Fields that aren't right, or not there.
		"F.A": {Fields: fields(none)}, "F.B": {Fields: fields(rec("F.Gone"))}, "F.C": {Fields: fields(arr(2, null))}, "F.D": {Base: "F.A"},
		// Great ones.
		"L.A": {Fields: fields(arr(1024, arr(16, integer)))}, "L.B": {Base: "L.A", Fields: fields(integer)}, "L.C": {Base: "L.A"}, "L.D": {Fields: fields(rec("L.A"), rec("M.E"))},
		"L.E": {Fields: fields(char, rec("L.A"))}, "L.F": {Fields: fields(rec("L.A"), arr(1024, rec("M.E")))},
	}
}

// P12.1: a form alone.
func TestBasic(t *testing.T) {
	for _, form := range []int{api.NoType, api.Int, api.Char, api.Bool, api.Set, api.Nil, api.Str, api.Array, api.Pointer, -1, 99} {
		if got := Basic(form); !reflect.DeepEqual(got, api.Type{Form: form}) {
			t.Errorf("Basic(%d): %v", form, got)
		}
	}
}

// some are types that aren't the same, one and another.
func some() []api.Type {
	return []api.Type{none, integer, char, boolean, set, null, str, arr(3, char), arr(4, char), arr(3, integer), arr(3), arr(3, char, char), arr(3, arr(4, char)), arr(4, arr(3, char)), arr(0, char), arr(3, none), arr(3, arr(4, integer)),
		arr(3, rec("M.A")), rec("M.A"), rec("M.B"), ptr("M.A"), ptr("M.B"), arr(3, ptr("M.A")), {Form: -1}, {Form: 10}}
}

// P12.1: types are the same, if form and what the form has are.
func TestSame(t *testing.T) {
	a, b := some(), some()
	for i := range a {
		for j := range b {
			if Same(a[i], b[j]) != (i == j) {
				t.Errorf("Same(%v, %v): %v", a[i], b[j], i != j)
			}
		}
	}
	for _, x := range [][2]api.Type{
		{integer, {Form: api.Int, N: 3, Name: "x", Of: some()}},
		{arr(3, char), {Form: api.Array, N: 3, Name: "x", Of: []api.Type{{Form: api.Char, N: 2}}}},
		{rec("M.A"), {Form: api.Record, Name: "M.A", N: 4, Of: some()}},
		{ptr("M.A"), {Form: api.Pointer, Name: "M.A", N: 4, Of: some()}},
		{arr(2), {Form: api.Array, N: 2, Of: []api.Type{}}},
	} {
		if !Same(x[0], x[1]) || !Same(x[1], x[0]) {
			t.Errorf("Same(%v, %v): no", x[0], x[1])
		}
	}
}

// P12.1: right types and others.
func TestRight(t *testing.T) {
	for _, x := range []api.Type{integer, char, boolean, set, arr(1, integer), arr(1024, set), arr(7, arr(8, rec("M.A"))), arr(1, ptr("x")), rec("M.A"), rec("x"), ptr("x"), {Form: api.Int, Of: []api.Type{}}} {
		if !Right(x) {
			t.Errorf("Right(%v): no", x)
		}
	}
	for _, x := range []api.Type{
		none, null, str, {Form: -1}, {Form: 10}, {Form: math.MaxInt},
		arr(0, integer), arr(-1, integer), arr(1025, integer), arr(math.MaxInt, integer), arr(math.MinInt, integer), arr(3), arr(3, integer, integer), arr(3, none), arr(3, null), arr(3, arr(0, integer)), arr(3, arr(3, arr(3))),
		rec(""), ptr(""), arr(3, rec("")),
		{Form: api.Int, N: 1}, {Form: api.Char, Name: "x"}, {Form: api.Set, Of: []api.Type{integer}}, {Form: api.Bool, N: -1},
		{Form: api.Array, N: 3, Name: "x", Of: []api.Type{integer}}, {Form: api.Record, Name: "x", N: 1}, {Form: api.Record, Name: "x", Of: []api.Type{integer}},
		{Form: api.Pointer, Name: "x", N: 1}, {Form: api.Pointer, Name: "x", Of: []api.Type{integer}},
	} {
		if Right(x) {
			t.Errorf("Right(%v)", x)
		}
	}
}

// P12.1: texts.
func TestText(t *testing.T) {
	for _, x := range []struct {
		t    api.Type
		want string
	}{
		{integer, "INTEGER"}, {char, "CHAR"}, {boolean, "BOOLEAN"}, {set, "SET"}, {null, "NIL"}, {str, "STRING"}, {none, ""}, {api.Type{Form: -1}, ""}, {api.Type{Form: 10, Name: "x"}, ""},
		{arr(3, char), "ARRAY 3 OF CHAR"}, {arr(1024, arr(1, ptr("M.A"))), "ARRAY 1024 OF ARRAY 1 OF POINTER TO M.A"}, {arr(-5, integer, char), "ARRAY -5 OF INTEGER"}, {arr(2, rec("M.A")), "ARRAY 2 OF M.A"},
		{rec("M.A"), "M.A"}, {rec(""), ""}, {ptr("M.A"), "POINTER TO M.A"}, {api.Type{Form: api.Set, N: 4, Name: "x"}, "SET"},
	} {
		if got := Text(x.t); got != x.want {
			t.Errorf("Text(%v): %q, want %q", x.t, got, x.want)
		}
	}
}

// P12.2: fields, the base's first; false, if one isn't there, or bases go round.
func TestFields(t *testing.T) {
	for name, want := range map[string][]api.Var{
		"M.E": nil, "M.D": nil,
		"M.A": fields(integer, char),
		"M.B": append(fields(integer, char), fields(arr(3, set), ptr("M.Gone"))...),
		"M.C": append(append(fields(integer, char), fields(arr(3, set), ptr("M.Gone"))...), api.Var{Name: "x", Export: true, T: rec("M.A")}),
		"S.A": fields(rec("S.A")), "F.A": fields(none), "F.D": fields(none), "F.B": fields(rec("F.Gone")),
	} {
		l, ok := Fields(name, records())
		if !ok || len(l) != len(want) || len(l) > 0 && !reflect.DeepEqual(l, want) {
			t.Errorf("%s: %v, %v", name, l, ok)
		}
	}
	for _, name := range []string{"", "M.Gone", "A", "R.A", "R.B", "R.C", "R.S", "G.A", "G.B"} {
		if l, ok := Fields(name, records()); ok || len(l) != 0 {
			t.Errorf("%s: %v, %v", name, l, ok)
		}
	}
	if l, ok := Fields("M.A", nil); ok || len(l) != 0 {
		t.Errorf("%v, %v", l, ok)
	}
}

// P12.2: what extends what.
func TestExtends(t *testing.T) {
	yes := map[[2]string]bool{
		{"M.B", "M.A"}: true, {"M.C", "M.B"}: true, {"M.C", "M.A"}: true, {"M.D", "M.E"}: true,
		{"R.A", "R.B"}: true, {"R.B", "R.A"}: true, {"R.C", "R.A"}: true, {"R.C", "R.B"}: true,
		{"G.A", "G.Gone"}: true, {"G.B", "G.A"}: true, {"G.B", "G.Gone"}: true, {"S.D", "S.E"}: true, {"F.D", "F.A"}: true, {"L.B", "L.A"}: true, {"L.C", "L.A"}: true,
	}
	names := []string{"", "G.Gone", "Other"}
	for name := range records() {
		names = append(names, name)
	}
	for _, a := range names {
		for _, b := range names {
			if got := Extends(a, b, records()); got != (a == b || yes[[2]string{a, b}]) {
				t.Errorf("Extends(%s, %s): %v", a, b, got)
			}
		}
	}
	if !Extends("x", "x", nil) || Extends("x", "y", nil) {
		t.Error("of no records")
	}
}

// P12.2: words.
func TestWords(t *testing.T) {
	for _, x := range []struct {
		t    api.Type
		want int // -1: none
	}{
		{integer, 1}, {char, 1}, {boolean, 1}, {set, 1}, {ptr("M.A"), 1}, {ptr("Gone"), 1}, {null, -1}, {str, -1}, {none, -1}, {api.Type{Form: 10}, -1},
		{arr(7, char), 7}, {arr(7, arr(8, ptr("M.A"))), 56}, {arr(1024, arr(16, set)), 16384}, {arr(16, arr(1024, set)), 16384}, {arr(1024, arr(17, set)), -1}, {arr(1024, arr(1024, arr(1024, arr(1024, arr(1024, arr(1024, arr(1024, integer))))))), -1},
		{arr(0, char), -1}, {arr(1025, char), -1}, {arr(3), -1}, {arr(3, null), -1}, {rec(""), -1}, {ptr(""), -1}, {api.Type{Form: api.Int, N: 1}, -1},
		{rec("M.E"), 0}, {rec("M.D"), 0}, {rec("M.A"), 2}, {rec("M.B"), 6}, {rec("M.C"), 8}, {arr(1024, rec("M.E")), 0}, {arr(100, rec("M.C")), 800}, {rec("S.P"), 2},
		{rec("Gone"), -1}, {rec("R.A"), -1}, {rec("R.C"), -1}, {rec("R.S"), -1}, {rec("G.A"), -1}, {rec("G.B"), -1},
		{rec("S.A"), -1}, {rec("S.B"), -1}, {rec("S.C"), -1}, {rec("S.D"), -1}, {rec("S.E"), -1}, {arr(2, rec("S.B")), -1},
		{rec("F.A"), -1}, {rec("F.B"), -1}, {rec("F.C"), -1}, {rec("F.D"), -1},
		{rec("L.A"), 16384}, {rec("L.B"), -1}, {rec("L.C"), 16384}, {rec("L.D"), 16384}, {rec("L.E"), -1}, {rec("L.F"), 16384}, {arr(1, rec("L.A")), 16384}, {arr(2, rec("L.A")), -1},
	} {
		n, ok := Words(x.t, records())
		if ok != (x.want >= 0) || n != max(x.want, 0) {
			t.Errorf("Words(%v): %d, %v, want %d", x.t, n, ok, x.want)
		}
	}
	if n, ok := Words(rec("M.A"), nil); n != 0 || ok {
		t.Errorf("%d, %v", n, ok)
	}
}

// P12.2: many records with two of the one below each end soon.
func TestManyRecords(t *testing.T) {
	recs := map[string]api.Rec{"0": {}, "b0": {}}
	for i := range 200 {
		below := strconv.Itoa(i)
		recs[strconv.Itoa(i+1)] = api.Rec{Fields: fields(rec(below), arr(1024, rec(below)))}
		recs["b"+strconv.Itoa(i+1)] = api.Rec{Base: "b" + below, Fields: fields(integer)}
	}
	if n, ok := Words(rec("200"), recs); n != 0 || !ok {
		t.Errorf("%d, %v", n, ok)
	}
	recs["0"] = api.Rec{Fields: fields(integer)}
	if n, ok := Words(rec("1"), recs); n != 1025 || !ok {
		t.Errorf("%d, %v", n, ok)
	}
	if n, ok := Words(rec("200"), recs); n != 0 || ok {
		t.Errorf("%d, %v", n, ok)
	}
	if n, ok := Words(rec("b200"), recs); n != 200 || !ok {
		t.Errorf("%d, %v", n, ok)
	}
	l, ok := Fields("b200", recs)
	if len(l) != 200 || !ok || !Extends("b200", "b0", recs) || Extends("b0", "b200", recs) {
		t.Errorf("%d, %v", len(l), ok)
	}
}

// P12.3: what fits where.
func TestFits(t *testing.T) {
	recs := records()
	basic := []api.Type{integer, char, boolean, set}
	for i, to := range basic {
		for j, from := range append(basic, none, null, str, arr(1, to), rec("M.A"), ptr("M.A")) {
			if Fits(to, from, recs) != (i == j) {
				t.Errorf("Fits(%v, %v): %v", to, from, i != j)
			}
		}
	}
	for _, x := range []struct {
		to, from api.Type
		want     bool
	}{
		{none, none, false}, {null, null, false}, {str, str, false}, {null, ptr("M.A"), false}, {api.Type{Form: 10}, api.Type{Form: 10}, false},
		{ptr("M.A"), ptr("M.A"), true}, {ptr("M.A"), ptr("M.B"), true}, {ptr("M.A"), ptr("M.C"), true}, {ptr("M.B"), ptr("M.A"), false}, {ptr("M.A"), null, true}, {ptr("M.A"), rec("M.A"), false}, {ptr("M.A"), integer, false}, {ptr("M.A"), none, false},
		{ptr("Gone"), ptr("Gone"), true}, {ptr("G.Gone"), ptr("G.B"), true}, {ptr("R.A"), ptr("R.C"), true}, {ptr("R.C"), ptr("R.A"), false},
		{rec("M.A"), rec("M.A"), true}, {rec("M.A"), rec("M.B"), false}, {rec("M.B"), rec("M.A"), false}, {rec("M.A"), ptr("M.A"), false}, {rec("M.A"), null, false},
		{arr(3, char), arr(3, char), true}, {arr(3, char), arr(4, char), false}, {arr(3, char), str, false}, {arr(0, char), str, false}, {arr(3, char), arr(3, integer), false}, {arr(3, rec("M.A")), arr(3, rec("M.A")), true}, {arr(3, ptr("M.A")), arr(3, ptr("M.B")), false}, {arr(3, char), null, false},
	} {
		if got := Fits(x.to, x.from, recs); got != x.want {
			t.Errorf("Fits(%v, %v): %v", x.to, x.from, got)
		}
	}
}

// anyType tells a type by chance.
func anyType(chance *rand.Rand, deep int) api.Type {
	t := api.Type{Form: chance.Intn(12) - 1}
	switch {
	case t.Form == api.Array && deep > 0:
		t.N = chance.Intn(5)
		t.Of = []api.Type{anyType(chance, deep-1)}
	case t.Form >= api.Record:
		t.Name = []string{"M.A", "M.B", "M.C", "M.D"}[chance.Intn(4)]
	}
	return t
}

// P12.4: what fits one fits whoever has the same; what is right fits itself.
func TestFitsSame(t *testing.T) {
	chance := rand.New(rand.NewSource(121))
	recs := records()
	for range 200000 {
		a, b, c := anyType(chance, 2), anyType(chance, 2), anyType(chance, 2)
		if Same(a, b) && (Fits(a, c, recs) != Fits(b, c, recs) || Fits(c, a, recs) != Fits(c, b, recs)) {
			t.Fatalf("%v, %v, %v", a, b, c)
		}
		if Right(a) && !Fits(a, a, recs) || Same(a, b) != Same(b, a) {
			t.Fatalf("%v, %v", a, b)
		}
	}
}

// P12.2: what is told is new memory; records aren't changed.
func TestNewMemory(t *testing.T) {
	recs := records()
	old := maps.Clone(recs)
	for _, make := range []func() api.Type{func() api.Type { return arr(3, char) }, func() api.Type { return arr(3, arr(4, char)) }} {
		recs["N.A"] = api.Rec{Fields: append(fields(make()), fields(integer)...)[:1]}
		l, _ := Fields("N.A", recs)
		l[0].T.Of[0].Form = 99
		if len(l[0].T.Of[0].Of) > 0 {
			l[0].T.Of[0].Of[0].Form = 99
		}
		_ = append(l, api.Var{Name: "z"})
		again, _ := Fields("N.A", recs)
		if !reflect.DeepEqual(again, fields(make())) {
			t.Errorf("%v", again)
		}
	}
	delete(recs, "N.A")
	Words(rec("M.C"), recs)
	Extends("M.C", "M.A", recs)
	if !reflect.DeepEqual(recs, old) {
		t.Error("changed")
	}
}
