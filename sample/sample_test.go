package sample

import (
	"bytes"
	"testing"

	"wafer/api"
	"wafer/front"
	"wafer/recheck"
	"wafer/tree"
)

// compiled tells the tree of a source that has no faults.
func compiled(t *testing.T, src string, mods ...api.Module) api.Module {
	t.Helper()
	m, diags := front.Compile(src, mods...)
	if len(diags) > 0 {
		t.Fatalf("%v ahead of %.40q in\n%s", diags, src[diags[0].Pos:], src)
	}
	return m
}

// Almost all modules that are made up have no faults, each is another one, and each is made again.
func TestModule(t *testing.T) {
	base := compiled(t, Base)
	met := map[string]bool{}
	wrong := 0
	for i := range 500 {
		src := Module(i)
		if met[src] || Module(i) != src || !bytes.Equal(Input(i), Input(i)) {
			t.Errorf("%d isn't its own", i)
		}
		met[src] = true
		if _, diags := front.Compile(src, base); len(diags) > 0 {
			wrong++
		}
	}
	if wrong > 10 {
		t.Errorf("%d have faults", wrong)
	}
}

// What is given has no faults.
func TestPrograms(t *testing.T) {
	for _, p := range Programs() {
		var l []api.Module
		for _, src := range p {
			l = append(l, compiled(t, src, l...))
		}
	}
}

// Many changed modules are right, and the one that is changed stays as it is.
func TestChange(t *testing.T) {
	base := compiled(t, Base)
	right, unlike := 0, 0
	for i := range 300 {
		m, diags := front.Compile(Module(i), base)
		if len(diags) > 0 {
			continue
		}
		before := tree.Clone(m)
		c := Change(m, i)
		if !tree.Same(m, before) || !tree.Same(c, Change(m, i)) {
			t.Fatalf("%d", i)
		}
		if !tree.Same(m, c) {
			unlike++
		}
		if recheck.Check(c, base) == api.OK {
			right++
		}
	}
	if right < 50 || right > 290 || unlike < 200 {
		t.Errorf("%d are right, %d unlike", right, unlike)
	}
}
