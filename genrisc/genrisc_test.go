package genrisc

import (
	"bytes"
	"math"
	"slices"
	"strings"
	"testing"

	"wafer/api"
	"wafer/eval"
	"wafer/riscvm"
	"wafer/sample"
	"wafer/tree"
	"wafer/trial"
)

// run does modules' code.
func run(in []byte, heap, steps int, mods ...api.Module) (api.Result, api.Errno) {
	code, words, err := Gen(heap, mods...)
	if err == api.OK && (words < 0 || words > 1<<20) {
		err = api.ErrSize
	}
	if err != api.OK {
		return api.Result{}, err
	}
	return riscvm.New(code, words, in).Run(steps), api.OK
}

// P25.1, P25.2: what chapter 23 names, modules that are made up, what is great.
func TestModel(t *testing.T) {
	for _, s := range trial.Run(run) {
		t.Error(s)
	}
}

// P25.1: the errors, and heaps.
func TestErrors(t *testing.T) {
	regs := sample.Trees("MODULE M; VAR i: INTEGER; BEGIN i := " + strings.Repeat("1 + (", 12) + "i" + strings.Repeat(")", 12) + " END M.")
	words := sample.Trees("MODULE A; VAR a: ARRAY 1024 OF ARRAY 9 OF INTEGER; END A.", "MODULE B; VAR a: ARRAY 1024 OF ARRAY 8 OF INTEGER; END B.")
	for i, x := range []struct {
		heap int
		l    []api.Module
		want api.Errno
	}{
		{0, regs, api.ErrRegs}, {1 << 17, regs, api.ErrRegs}, {0, words, api.ErrWords}, {0, words[:1], api.OK}, {1 << 16, words[:1], api.OK}, {1<<16 + 1, words[:1], api.ErrWords}, {math.MaxInt, nil, api.ErrWords}, {math.MinInt, nil, api.OK},
	} {
		code, n, err := Gen(x.heap, x.l...)
		if err != x.want || err != api.OK && (len(code) > 0 || n != 0) {
			t.Errorf("%d: %v, want %v", i, err, x.want)
		}
	}
	code, n, _ := Gen(0, words[:1]...)
	code2, n2, _ := Gen(math.MinInt, words[:1]...)
	if !slices.Equal(code, code2) || n != n2 {
		t.Error("a heap below 0 isn't none")
	}
}

// P25.1: with less fuel what is written is a beginning; with enough it ends.
func TestFuel(t *testing.T) {
	l := sample.Trees(sample.Writes())
	n := 0
	want := eval.Run(nil, 0, n, l...)
	for want.End == api.Running {
		n++
		want = eval.Run(nil, 0, n, l...)
	}
	code, words, _ := Gen(0, l...)
	last := 0
	for steps := 0; last < len(want.Out); steps++ {
		r := riscvm.New(code, words, nil).Run(steps)
		if !bytes.HasPrefix(want.Out, r.Out) || len(r.Out) < last {
			t.Fatalf("%d: %q", steps, r.Out)
		}
		last = len(r.Out)
	}
	r := riscvm.New(code, words, nil).Run(100 * (n + 1) * (len(code) + 100))
	if r.End != api.Halted || !bytes.Equal(r.Out, want.Out) {
		t.Errorf("%v", r)
	}
}

// The same again is the same; what is handed in isn't changed; trees that aren't right lead to no panic.
func TestAgain(t *testing.T) {
	l := sample.Trees(sample.Base, sample.Module(1))
	before := tree.Clone(l[1])
	a, n, _ := Gen(100, l...)
	b, m, _ := Gen(100, l...)
	if !slices.Equal(a, b) || n != m || !tree.Same(before, l[1]) {
		t.Error("another one")
	}
	for i, s := range sample.Wrong() {
		if code, n, err := Gen(0, api.Module{Name: "M", Body: []api.Stmt{s}}); err != api.OK && (len(code) > 0 || n != 0) {
			t.Errorf("%d", i)
		}
	}
}
