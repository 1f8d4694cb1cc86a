package layout

import (
	"testing"

	"wafer/api"
	"wafer/sample"
)

const (
	base  = "MODULE A; TYPE R* = RECORD x: INTEGER; a: ARRAY 3 OF CHAR END; Z = RECORD END; S* = RECORD (R) y: ARRAY 2 OF R; z: SET END; VAR r: R; i: INTEGER; s: S; END A."
	other = "MODULE B; IMPORT A; TYPE T = RECORD (A.S) q: POINTER TO A.R END; U = RECORD (A.R) END; V = RECORD (T) END; VAR b: BOOLEAN; t: ARRAY 2 OF V; END B."
)

// Sizes, and where fields and variables stand.
func TestPlaces(t *testing.T) {
	l := sample.Trees(base, other)
	p := New(l)
	for name, want := range map[string]int{"A.R": 4, "A.Z": 0, "A.S": 13, "B.T": 14, "B.U": 4, "B.V": 14} {
		typ := api.Type{Form: api.Record, Name: name}
		if n, ok := p.Words(typ); p.Size(typ) != want || n != want || !ok {
			t.Errorf("%s: %d, %d", name, p.Size(typ), n)
		}
	}
	for _, x := range []struct {
		record, field string
		want          int
	}{{"A.R", "x", 0}, {"A.R", "a", 1}, {"A.S", "x", 0}, {"A.S", "y", 4}, {"A.S", "z", 12}, {"B.T", "q", 13}, {"B.V", "z", 12}} {
		if got := p.Field(x.record, x.field); got != x.want {
			t.Errorf("%s.%s: %d", x.record, x.field, got)
		}
	}
	at, words := p.Globals(l)
	for name, want := range map[string]int{"A.r": 0, "A.i": 4, "A.s": 5, "B.b": 18, "B.t": 19} {
		if got, there := at[name]; got != want || !there {
			t.Errorf("%s: %d", name, got)
		}
	}
	if words != 47 {
		t.Errorf("%d", words)
	}
}

// A record's number is among another's, if it extends that.
func TestKin(t *testing.T) {
	p := New(sample.Trees(base, other))
	names := []string{"A.R", "A.Z", "A.S", "B.T", "B.U", "B.V"}
	met := map[int]bool{}
	for _, a := range names {
		n, _ := p.Kin(a)
		if met[n] || n < 1 || n > len(names) {
			t.Errorf("%s: %d", a, n)
		}
		met[n] = true
		for _, b := range names {
			first, count := p.Kin(b)
			if is := n >= first && n < first+count; is != p.Extends(a, b) {
				t.Errorf("%s, %s: %v", a, b, is)
			}
		}
	}
}

// The first of a name counts.
func TestFirsts(t *testing.T) {
	l := Firsts([]api.Module{{Name: "A", Imports: []string{"1"}}, {Name: "B"}, {Name: "A", Imports: []string{"2"}}, {Name: "B"}})
	if len(l) != 2 || l[0].Imports[0] != "1" || l[1].Name != "B" {
		t.Errorf("%v", l)
	}
}

// What isn't right goes round nowhere.
func TestWrong(t *testing.T) {
	p := New([]api.Module{{Name: "M", Recs: []api.Rec{{Name: "R", Base: "M.S"}, {Name: "S", Base: "M.R"}, {Name: "T", Base: "M.Z"}, {Name: "T"}}}})
	if _, ok := p.Words(api.Type{Form: api.Record, Name: "M.R"}); ok || p.Extends("M.R", "M.T") || p.Field("M.R", "x") != 0 {
		t.Error("right")
	}
}
