package genrisc

import (
	"bytes"
	"math"
	"strconv"
	"strings"
	"testing"

	"wafer/api"
	"wafer/eval"
	"wafer/front"
	"wafer/need"
	"wafer/recheck"
	"wafer/riscvm"
	"wafer/sample"
	"wafer/tree"
)

const (
	fuel  = 20000
	steps = 3000000 // more than these programs need
)

// compiled tells the trees of sources that have no faults, each beside those ahead.
func compiled(t *testing.T, srcs ...string) []api.Module {
	t.Helper()
	var l []api.Module
	for _, src := range srcs {
		m, diags := front.Compile(src, l...)
		if len(diags) > 0 {
			t.Fatalf("%v ahead of %.40q in\n%s", diags, src[diags[0].Pos:], src)
		}
		l = append(l, m)
	}
	return l
}

// agrees checks that modules do on the machine what the model says.
func agrees(t *testing.T, what string, in []byte, heap int, l ...api.Module) api.Result {
	t.Helper()
	code, words, err := Gen(heap, l...)
	if err != api.OK || words < 0 || words > 1<<20 || len(code) == 0 {
		t.Fatalf("%v, %d words of\n%s", err, words, what)
	}
	want := eval.Run(in, heap, fuel, l...)
	m := riscvm.New(code, words, in)
	got := m.Run(steps)
	if want.End != api.Running {
		if got.End != want.End || got.Trap != want.Trap || !bytes.Equal(got.Out, want.Out) {
			t.Fatalf("%q, %d, %d, want %q, %d, %d of\n%s", got.Out, got.End, got.Trap, want.Out, want.End, want.Trap, what)
		}
	} else if !bytes.HasPrefix(got.Out, want.Out) && !bytes.HasPrefix(want.Out, got.Out) || got.Trap == api.TrapFault {
		t.Fatalf("%.100q, %d, want %.100q of\n%s", got.Out, got.Trap, want.Out, what)
	}
	return want
}

// P25.1, P25.2: what chapter 23 names.
func TestPrograms(t *testing.T) {
	ends := map[int]int{}
	for _, p := range sample.Programs() {
		r := agrees(t, strings.Join(p, "\n"), []byte("in\xff"), 100, compiled(t, p...)...)
		ends[r.Trap]++
		if r.End == api.Running {
			t.Errorf("takes too long: %s", p)
		}
	}
	for trap := range api.TrapStack + 1 {
		if ends[trap] == 0 {
			t.Errorf("none ends by trap %d", trap)
		}
	}
}

// P25.1: modules that are made up.
func TestMadeUp(t *testing.T) {
	base := compiled(t, sample.Base)[0]
	for i := range 700 {
		m, diags := front.Compile(sample.Module(i), base)
		if len(diags) == 0 && need.Check(base, m) == api.OK {
			agrees(t, strconv.Itoa(i)+": "+sample.Module(i), sample.Input(i), 200, base, m)
		}
	}
}

// P25.1: trees that no source has, but are right.
func TestChanged(t *testing.T) {
	base := compiled(t, sample.Base)[0]
	n := 0
	for i := range 1500 {
		m, diags := front.Compile(sample.Module(i%300), base)
		if len(diags) > 0 {
			continue
		}
		m = sample.Change(m, i)
		if recheck.Check(m, base) == api.OK && need.Check(base, m) == api.OK {
			n++
			agrees(t, strconv.Itoa(i)+" changed", sample.Input(i), 200, base, m)
		}
	}
	if n < 300 {
		t.Errorf("%d", n)
	}
}

// P25.1: operators of constants that nobody has reckoned.
func TestUnfolded(t *testing.T) {
	for _, s := range sample.Unfolded() {
		m := api.Module{Name: "M", Imports: []string{"Out"}, Body: []api.Stmt{s, {Op: api.PutLn}}}
		if err := recheck.Check(m); err != api.OK {
			t.Fatalf("%v: %v", err, s)
		}
		agrees(t, "unfolded", nil, 0, m)
	}
}

// P25.1: the greatest frames, as many as may be, beside the greatest heap and the most variables, all registers in use.
func TestGreat(t *testing.T) {
	src := sample.Great()
	l := compiled(t, src)
	r := agrees(t, src, nil, 1<<16, l...)
	if r.Trap != api.TrapStack {
		t.Errorf("%v", r)
	}
	if most := need.Most(l[0]); most != api.MaxRegs {
		t.Errorf("%d registers", most)
	}
}

// P25.1: a record's last field is as many words away as may be.
func TestFar(t *testing.T) {
	src := sample.Far()
	agrees(t, src, nil, 40000, compiled(t, src)...)
	agrees(t, src, nil, 20000, compiled(t, src)...)
	agrees(t, src, nil, 16385, compiled(t, src)...)
	agrees(t, src, nil, 16384, compiled(t, src)...)
}

// P25.1: heaps; of one below 0 as of none.
func TestHeap(t *testing.T) {
	l := compiled(t, sample.Heap())
	for _, heap := range []int{0, 3, 4, 8, 9, 10, 11, 1 << 16} {
		agrees(t, strconv.Itoa(heap), nil, heap, l...)
	}
	none, words, _ := Gen(0, l...)
	for _, heap := range []int{-1, math.MinInt} {
		code, w, err := Gen(heap, l...)
		if err != api.OK || w != words || len(code) != len(none) {
			t.Errorf("%d: %v", heap, err)
		}
		agrees(t, "below 0", nil, heap, l...)
	}
	for _, heap := range []int{1<<16 + 1, math.MaxInt} {
		if code, w, err := Gen(heap, l...); err != api.ErrWords || len(code) > 0 || w != 0 {
			t.Errorf("%d: %v", heap, err)
		}
	}
}

// P25.1: need's errors.
func TestErrors(t *testing.T) {
	regs := compiled(t, "MODULE M; VAR i: INTEGER; BEGIN i := 1 + (1 + (1 + (1 + (1 + (1 + (1 + (1 + (1 + (1 + (1 + (1 + i))))))))))) END M.")
	words := compiled(t, "MODULE A; VAR a: ARRAY 1024 OF ARRAY 9 OF INTEGER; END A.", "MODULE B; VAR a: ARRAY 1024 OF ARRAY 8 OF INTEGER; END B.")
	for _, x := range []struct {
		heap int
		l    []api.Module
		want api.Errno
	}{{0, regs, api.ErrRegs}, {1 << 17, regs, api.ErrRegs}, {0, words, api.ErrWords}, {0, words[:1], api.OK}} {
		code, n, err := Gen(x.heap, x.l...)
		if err != x.want || err != api.OK && (len(code) > 0 || n != 0) {
			t.Errorf("%v, want %v", err, x.want)
		}
	}
	agrees(t, "no modules", nil, 0)
	m := compiled(t, "MODULE M; IMPORT Out; BEGIN Out.Int(3) END M.")[0]
	agrees(t, "the first of a name", nil, 0, m, api.Module{Name: "M", Body: []api.Stmt{{Op: api.PutLn}}})
}

// P25.1: with less fuel what is written is a beginning; with enough it ends.
func TestFuel(t *testing.T) {
	l := compiled(t, sample.Writes())
	want := eval.Run(nil, 0, fuel, l...)
	n := 0
	for eval.Run(nil, 0, n, l...).End == api.Running {
		n++
	}
	code, words, _ := Gen(0, l...)
	last := -1
	for f := 0; last < len(want.Out); f++ {
		r := riscvm.New(code, words, nil).Run(f)
		if !bytes.HasPrefix(want.Out, r.Out) || len(r.Out) < last {
			t.Fatalf("%d: %q", f, r.Out)
		}
		last = len(r.Out)
	}
	r := riscvm.New(code, words, nil).Run(100 * (n + 1) * (len(code) + 100))
	if r.End != api.Halted || !bytes.Equal(r.Out, want.Out) {
		t.Errorf("%v", r)
	}
}

// The same again is the same; what is handed in isn't changed; trees that aren't right lead to no panic.
func TestAgain(t *testing.T) {
	l := compiled(t, sample.Base, sample.Module(1))
	before := tree.Clone(l[1])
	a, n, _ := Gen(100, l...)
	b, m, _ := Gen(100, l...)
	same := len(a) == len(b) && n == m
	for i := range a {
		same = same && a[i] == b[i]
	}
	if !same || !tree.Same(before, l[1]) {
		t.Error("another one")
	}
	name := api.Expr{Op: api.Name, S: "M.x", T: api.Type{Form: api.Int}}
	for _, s := range []api.Stmt{{Op: api.Assign}, {Op: api.Assign, X: []api.Expr{name, name}}, {Op: api.Do, X: []api.Expr{{Op: api.Call, S: "M.p"}}}, {Op: api.Repeat}, {Op: api.For, X: []api.Expr{name, name, name}}, {Op: api.Case, X: []api.Expr{{}}, I: []int32{0, 0, 9}}, {Op: 99}, {Op: api.PutInt, X: []api.Expr{{Op: 99}}}, {Op: api.PutStr, X: []api.Expr{{Op: api.Index}}}} {
		Gen(0, api.Module{Name: "M", Body: []api.Stmt{s}})
	}
}
