// Package trial holds what a target's code does against the model.
package trial

import (
	"bytes"
	"strconv"
	"strings"

	"wafer/api"
	"wafer/eval"
	"wafer/front"
	"wafer/need"
	"wafer/recheck"
	"wafer/sample"
)

// Bounds of runs: steps are more than any of these programs needs that ends with this fuel.
const (
	fuel  = 20000
	steps = 3000000
)

// Machine does modules' code, with a heap, at most so many steps.
type Machine func(in []byte, heap, steps int, mods ...api.Module) (api.Result, api.Errno)

// trial is a machine, and what is to be said of it.
type trial struct {
	run        Machine
	complaints []string
	ends       map[int]int // how many runs ended by each trap
}

// Run tells in what a machine does something else than the model.
func Run(run Machine) []string {
	t := &trial{run: run, ends: map[int]int{}}
	t.programs()
	t.unfolded()
	t.limits()
	t.madeUp()
	return t.complaints
}

// complain notes what is wrong.
func (t *trial) complain(l ...string) {
	t.complaints = append(t.complaints, strings.Join(l, " "))
}

// told tells a result as a text.
func told(r api.Result) string {
	return strconv.Quote(string(r.Out)) + ", end " + strconv.Itoa(r.End) + ", trap " + strconv.Itoa(r.Trap)
}

// try runs modules on the machine and by the model.
func (t *trial) try(what string, in []byte, heap int, mods ...api.Module) {
	want := eval.Run(in, heap, fuel, mods...)
	t.ends[want.Trap]++
	got, err := t.run(in, heap, steps, mods...)
	if err != api.OK {
		t.complain(err.Error(), "of", what)
		return
	}
	agree := got.End == want.End && got.Trap == want.Trap && bytes.Equal(got.Out, want.Out)
	if want.End == api.Running {
		agree = got.Trap != api.TrapFault && (bytes.HasPrefix(got.Out, want.Out) || bytes.HasPrefix(want.Out, got.Out))
	}
	if !agree {
		t.complain(told(got), "- and by the model", told(want), "- of", what)
	}
}

// programs tries programs that meet what the chapters name: each trap among them.
func (t *trial) programs() {
	for _, srcs := range sample.Programs() {
		t.try(strings.Join(srcs, "\n"), []byte("in\xff"), 100, sample.Trees(srcs...)...)
	}
	for trap := range api.TrapStack + 1 {
		if t.ends[trap] == 0 {
			t.complain("none ends by trap", strconv.Itoa(trap))
		}
	}
}

// unfolded tries operators of constants that nobody has reckoned.
func (t *trial) unfolded() {
	for i, s := range sample.Unfolded() {
		m := api.Module{Name: "M", Imports: []string{"Out"}, Body: []api.Stmt{s, {Op: api.PutLn}}}
		if err := recheck.Check(m); err != api.OK {
			t.complain(err.Error(), "of constants", strconv.Itoa(i))
		}
		t.try("constants "+strconv.Itoa(i), nil, 0, m)
	}
}

// limits tries what is as great as may be, and heaps that are just great enough and one word less.
func (t *trial) limits() {
	great := sample.Trees(sample.Great())
	if most := need.Most(great[0]); most != api.MaxRegs {
		t.complain(strconv.Itoa(most), "registers")
	}
	t.try("what is great", nil, 1<<16, great...)
	for _, heap := range []int{16384, 16385, 32769, 32770, 40000} {
		t.try("a great record", nil, heap, sample.Trees(sample.Far())...)
	}
	for _, heap := range []int{-1, 0, 1, 4, 5, 9, 10, 11, 1 << 16} {
		t.try("a heap of "+strconv.Itoa(heap), nil, heap, sample.Trees(sample.Heap())...)
	}
	m := sample.Trees(sample.Writes())[0]
	t.try("no modules", nil, 0)
	t.try("the first of a name", nil, 0, m, api.Module{Name: m.Name, Body: []api.Stmt{{Op: api.PutLn}}})
}

// madeUp tries modules that are made up, and ones that are changed, so that no source has them.
func (t *trial) madeUp() {
	base := sample.Trees(sample.Base)[0]
	changed := 0
	for i := range 1800 {
		m, diags := front.Compile(sample.Module(i/3), base)
		if len(diags) > 0 {
			continue
		}
		if i%3 > 0 {
			m = sample.Change(m, i)
		}
		if recheck.Check(m, base) == api.OK && need.Check(base, m) == api.OK {
			changed += min(i%3, 1)
			t.try("module "+strconv.Itoa(i), sample.Input(i), 200, base, m)
		}
	}
	if changed < 400 {
		t.complain("only", strconv.Itoa(changed), "changed modules are right")
	}
}
