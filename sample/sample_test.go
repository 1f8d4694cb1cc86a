package sample

import (
	"bytes"
	"testing"

	"wafer/api"
	"wafer/front"
	"wafer/recheck"
	"wafer/tree"
)

// Almost all modules that are made up have no faults, each is another one, and each is made again.
func TestModule(t *testing.T) {
	base := Trees(Base)[0]
	met := map[string]bool{}
	wrong := 0
	for i := range 500 {
		src := Module(i)
		if met[src] || Module(i) != src || !bytes.Equal(Input(i), Input(i)) {
			t.Errorf("%d isn't its own", i)
		}
		met[src] = true
		if _, diags := front.Compile(src, base); len(diags) > 0 {
			wrong++
		}
	}
	if wrong > 10 {
		t.Errorf("%d have faults", wrong)
	}
}

// What is given has no faults.
func TestPrograms(t *testing.T) {
	for _, p := range Programs() {
		if l := Trees(p...); len(l) != len(p) {
			t.Errorf("%d of %d", len(l), len(p))
		}
	}
}

// A source with a fault has no tree, and who asks for it is told so.
func TestTrees(t *testing.T) {
	defer func() {
		if recover() == nil {
			t.Error("a tree")
		}
	}()
	Trees("MODULE M; END N.")
}

// Many changed modules are right, and the one that is changed stays as it is.
func TestChange(t *testing.T) {
	base := Trees(Base)[0]
	right, unlike := 0, 0
	for i := range 300 {
		m, diags := front.Compile(Module(i), base)
		if len(diags) > 0 {
			continue
		}
		before := tree.Clone(m)
		c := Change(m, i)
		if !tree.Same(m, before) || !tree.Same(c, Change(m, i)) {
			t.Fatalf("%d", i)
		}
		if !tree.Same(m, c) {
			unlike++
		}
		if recheck.Check(c, base) == api.OK {
			right++
		}
	}
	if right < 50 || right > 290 || unlike < 200 {
		t.Errorf("%d are right, %d unlike", right, unlike)
	}
}
