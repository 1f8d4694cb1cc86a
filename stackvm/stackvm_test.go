package stackvm

import (
	"math"
	"math/rand"
	"slices"
	"strings"
	"testing"

	"wafer/api"
)

// k tells an instruction with a K; op one without.

func k(op int, n int32) api.Code { return api.Code{Op: op, K: n} }
func op(o int) api.Code          { return api.Code{Op: o} }

// list tells a program; pushes one that pushes these.

func list(l ...api.Code) []api.Code { return l }

func pushes(l ...int32) []api.Code {
	var c []api.Code
	for _, x := range l {
		c = append(c, k(api.Push, x))
	}
	return c
}

// join tells programs behind one another.
func join(l ...[]api.Code) []api.Code { return slices.Concat(l...) }

// look is all that a machine's calls tell.
type look struct {
	operands, words []int32
	frame, top, pc  int
	out             string
	end, trap       int
}

// lookAt tells that of a machine.
func lookAt(m *Machine) look {
	l := look{operands: m.Operands(), pc: m.PC()}
	l.frame, l.top = m.Frame()
	for i := 0; ; i++ {
		w, ok := m.Word(i)
		if !ok {
			break
		}
		l.words = append(l.words, w)
	}
	r := m.Result()
	l.out, l.end, l.trap = string(r.Out), r.End, r.Trap
	return l
}

// same tells whether two looks are alike.
func (a look) same(b look) bool {
	return slices.Equal(a.operands, b.operands) && slices.Equal(a.words, b.words) &&
		a.frame == b.frame && a.top == b.top && a.pc == b.pc && a.out == b.out && a.end == b.end && a.trap == b.trap
}

// faults checks that the next step is a fault that changes nothing else, and that nothing is done then.
func faults(t *testing.T, name string, m *Machine) {
	t.Helper()
	want := lookAt(m)
	want.end, want.trap = api.Trapped, api.TrapFault
	if !m.Step() {
		t.Errorf("%s: no step", name)
	}
	if got := lookAt(m); !got.same(want) {
		t.Errorf("%s: %+v, want %+v", name, got, want)
	}
	if m.Step() {
		t.Errorf("%s: a step behind the end", name)
	}
	if got := lookAt(m); !got.same(want) {
		t.Errorf("%s, again: %+v", name, got)
	}
}

// P9.1: a new machine; words from 0 to 2^20, base from 0 to words.
func TestNew(t *testing.T) {
	for _, x := range []struct{ words, base, wantWords, wantBase int }{
		{0, 0, 0, 0}, {5, 3, 5, 3}, {5, 5, 5, 5}, {5, 6, 5, 5}, {5, -1, 5, 0}, {-1, 3, 0, 0}, {math.MinInt, math.MinInt, 0, 0},
		{1 << 20, 1 << 20, 1 << 20, 1 << 20}, {1<<20 + 1, 1<<20 + 1, 1 << 20, 1 << 20}, {math.MaxInt, math.MaxInt, 1 << 20, 1 << 20}, {math.MaxInt, 7, 1 << 20, 7},
	} {
		m := New(nil, x.words, x.base, nil)
		want := look{words: make([]int32, x.wantWords), frame: x.wantBase, top: x.wantBase}
		if got := lookAt(m); !got.same(want) {
			t.Errorf("%+v: %d words, %d, %d", x, len(got.words), got.frame, got.top)
		}
	}
}

// P9.3: no words but those.
func TestNoSuchWord(t *testing.T) {
	m := New(join(pushes(2, 77), list(op(api.Store), op(api.Halt))), 3, 0, nil)
	m.Run(9)
	for _, i := range []int{-1, 3, 4, 1 << 20, 1 << 32, 1<<32 + 2, math.MaxInt, math.MinInt} {
		if v, ok := m.Word(i); v != 0 || ok {
			t.Errorf("Word(%d): %d, %v", i, v, ok)
		}
	}
	if v, ok := m.Word(2); v != 77 || !ok {
		t.Errorf("Word(2): %d, %v", v, ok)
	}
}

// P9.1, P9.2: the chapter's example, step by step.
func TestExample(t *testing.T) {
	m := New(list(k(api.Push, 65), op(api.Putc), op(api.Halt)), 0, 0, nil)
	for i, want := range []look{
		{operands: []int32{65}, pc: 1},
		{pc: 2, out: "A"},
		{pc: 2, out: "A", end: api.Halted},
	} {
		if !m.Step() {
			t.Errorf("%d: no step", i)
		}
		if got := lookAt(m); !got.same(want) {
			t.Errorf("%d: %+v", i, got)
		}
	}
	if m.Step() || m.Step() {
		t.Error("a step behind the end")
	}
}

// P9.1: Run takes at most so many steps, and goes on where it was.
func TestFuel(t *testing.T) {
	m := New(list(k(api.Push, 65), op(api.Putc), k(api.Jump, 0)), 0, 0, nil)
	for i, x := range []struct {
		fuel int
		out  string
		pc   int
	}{{0, "", 0}, {-1, "", 0}, {math.MinInt, "", 0}, {1, "", 1}, {1, "A", 2}, {1, "A", 0}, {6, "AAA", 0}} {
		r := m.Run(x.fuel)
		if string(r.Out) != x.out || r.End != api.Running || r.Trap != 0 || m.PC() != x.pc {
			t.Errorf("%d: %+v, %d", i, r, m.PC())
		}
	}
	m = New(list(op(api.Halt)), 0, 0, nil)
	if r := m.Run(math.MaxInt); r.End != api.Halted || r.Trap != 0 || m.PC() != 0 {
		t.Errorf("%+v", r)
	}
	m = New(nil, 0, 0, nil)
	if r := m.Run(1); r.End != api.Trapped || r.Trap != api.TrapFault {
		t.Errorf("%+v", r)
	}
}

// P9.2: what operations make of operands.
func TestReckon(t *testing.T) {
	const least, most = math.MinInt32, math.MaxInt32
	for i, x := range []struct {
		in   []int32
		op   int
		want []int32 // nil: a fault
	}{
		{[]int32{7}, api.Dup, []int32{7, 7}}, {[]int32{7, 8}, api.Drop, []int32{7}}, {[]int32{7, 8, 9}, api.Swap, []int32{7, 9, 8}},
		{[]int32{1, 2}, api.CAdd, []int32{3}}, {[]int32{most, 1}, api.CAdd, []int32{least}}, {[]int32{9, 1, 2}, api.CSub, []int32{9, -1}}, {[]int32{least, 1}, api.CSub, []int32{most}},
		{[]int32{-3, 5}, api.CMul, []int32{-15}}, {[]int32{1 << 16, 1 << 16}, api.CMul, []int32{0}}, {[]int32{-7, 2}, api.CDiv, []int32{-4}}, {[]int32{-7, 2}, api.CMod, []int32{1}},
		{[]int32{7, 0}, api.CDiv, nil}, {[]int32{7, -2}, api.CDiv, nil}, {[]int32{7, 0}, api.CMod, nil}, {[]int32{7, -1}, api.CMod, nil}, {[]int32{least, least}, api.CMod, nil},
		{[]int32{5}, api.CNeg, []int32{-5}}, {[]int32{least}, api.CNeg, []int32{least}}, {[]int32{4, 0}, api.CNeg, []int32{4, 0}},
		{[]int32{12, 10}, api.CAnd, []int32{8}}, {[]int32{12, 10}, api.COr, []int32{14}}, {[]int32{12, 10}, api.CXor, []int32{6}}, {[]int32{12}, api.CInv, []int32{-13}},
		{[]int32{1, 31}, api.CLsl, []int32{least}}, {[]int32{1, 33}, api.CLsl, []int32{2}}, {[]int32{-8, 1}, api.CAsr, []int32{-4}}, {[]int32{least, 31}, api.CAsr, []int32{-1}}, {[]int32{1, 1}, api.CRor, []int32{least}}, {[]int32{8, -29}, api.CRor, []int32{1}},
		{[]int32{3, 3}, api.CEq, []int32{1}}, {[]int32{3, 4}, api.CEq, []int32{0}}, {[]int32{-1, 1}, api.CLt, []int32{1}}, {[]int32{1, -1}, api.CLt, []int32{0}}, {[]int32{1, 1}, api.CLt, []int32{0}},
		{[]int32{1, 1}, api.CLe, []int32{1}}, {[]int32{least, most}, api.CLe, []int32{1}}, {[]int32{most, least}, api.CLe, []int32{0}}, {[]int32{least, most}, api.CLt, []int32{1}},
	} {
		m := New(join(pushes(x.in...), list(op(x.op), op(api.Halt))), 0, 0, nil)
		m.Run(len(x.in))
		if x.want == nil {
			faults(t, "reckon", m)
			continue
		}
		m.Step()
		if got := lookAt(m); !got.same(look{operands: x.want, pc: len(x.in) + 1}) {
			t.Errorf("%d: %+v, want %v", i, got, x.want)
		}
	}
}

// P9.1: faults of operands that lack, of each operation.
func TestLacks(t *testing.T) {
	takes := map[int]int{api.Dup: 1, api.Drop: 1, api.Swap: 2, api.Load: 1, api.Store: 2, api.Move: 2, api.Zero: 1, api.Putc: 1, api.CNeg: 1, api.CInv: 1}
	for o := api.CAdd; o <= api.CLe; o++ {
		if o != api.CNeg && o != api.CInv {
			takes[o] = 2
		}
	}
	for o, n := range takes {
		for have := range n {
			m := New(join(pushes(slices.Repeat([]int32{1}, have)...), list(op(o), op(api.Halt))), 9, 0, nil)
			m.Run(have)
			faults(t, "lacks", m)
		}
		m := New(join(pushes(slices.Repeat([]int32{1}, n)...), list(op(o), op(api.Halt))), 9, 0, nil)
		if r := m.Run(n + 1); r.End != api.Running {
			t.Errorf("%d of %d: %+v", o, n, r)
		}
	}
}

// P9.1: a 1001st operand is a fault.
func TestThousandth(t *testing.T) {
	many := pushes(slices.Repeat([]int32{5}, 1000)...)
	for _, c := range []api.Code{k(api.Push, 1), op(api.Dup), k(api.Local, 1), op(api.Getc), op(api.Endc)} {
		m := New(join(many, list(c, op(api.Drop), op(api.Getc))), 9, 3, []byte("x"))
		if r := m.Run(1000); r.End != api.Running || len(m.Operands()) != 1000 {
			t.Fatalf("%+v", r)
		}
		faults(t, "one more", m)
		m = New(join(many[1:], list(c, op(api.Halt))), 9, 3, []byte("x"))
		if r := m.Run(2000); r.End != api.Halted || len(m.Operands()) != 1000 {
			t.Errorf("%v: %+v", c, r)
		}
	}
	m := New(join(many, list(op(api.Swap), op(api.CAdd), op(api.Endc), op(api.Halt))), 0, 0, nil)
	if r := m.Run(2000); r.End != api.Halted || len(m.Operands()) != 1000 {
		t.Errorf("%+v", r)
	}
}

// P9.1: faults of what is no instruction, and of a PC outside.
func TestNoInstruction(t *testing.T) {
	for _, c := range []api.Code{op(-1), op(api.Ops), op(math.MaxInt), op(math.MinInt), op(256), k(api.Halt, 1), k(api.Dup, 1), k(api.Leave, -1), k(api.Putc, 1), k(api.CAdd, 1), k(api.Getc, 7), k(-1, 1)} {
		m := New(join(pushes(1, 2), list(c)), 5, 0, nil)
		m.Run(2)
		faults(t, "no instruction", m)
	}
	for _, to := range []int32{-1, 2, 3, math.MinInt32, math.MaxInt32} {
		for _, o := range []int{api.Jump, api.CallTo} {
			m := New(list(k(o, to), op(api.Halt)), 0, 0, nil)
			m.Step()
			if m.PC() != int(to) || m.Result().End != api.Running {
				t.Errorf("to %d: %d", to, m.PC())
			}
			faults(t, "outside", m)
		}
		m := New(list(k(api.Push, 0), k(api.Zero, to), op(api.Halt)), 0, 0, nil)
		m.Run(2)
		if m.PC() != int(to) {
			t.Errorf("to %d: %d", to, m.PC())
		}
	}
	m := New(pushes(1), 0, 0, nil)
	m.Step()
	faults(t, "behind the last one", m)
}

// P9.2: Load, Store: places 0 to words less 1.
func TestPlaces(t *testing.T) {
	m := New(join(pushes(3, -9), list(op(api.Store)), pushes(8, 3), list(op(api.Load), op(api.Halt))), 4, 1, nil)
	m.Run(6)
	if got := lookAt(m); !got.same(look{operands: []int32{8, -9}, words: []int32{0, 0, 0, -9}, frame: 1, top: 1, pc: 6}) {
		t.Errorf("%+v", got)
	}
	for _, p := range []int32{-1, 4, 5, math.MinInt32, math.MaxInt32} {
		m := New(join(pushes(p), list(op(api.Load))), 4, 0, nil)
		m.Step()
		faults(t, "load", m)
		m = New(join(pushes(p, 1), list(op(api.Store))), 4, 0, nil)
		m.Run(2)
		faults(t, "store", m)
	}
}

// P9.2: Move, also of words that overlap.
func TestMove(t *testing.T) {
	fill := join(pushes(0, 10), list(op(api.Store)), pushes(1, 11), list(op(api.Store)), pushes(2, 12), list(op(api.Store)), pushes(3, 13), list(op(api.Store)))
	for _, x := range []struct {
		p, q, k int32
		want    []int32 // nil: a fault
	}{
		{0, 2, 2, []int32{12, 13, 12, 13}}, {2, 0, 2, []int32{10, 11, 10, 11}}, {1, 0, 3, []int32{10, 10, 11, 12}}, {0, 1, 3, []int32{11, 12, 13, 13}}, {0, 0, 4, []int32{10, 11, 12, 13}},
		{4, 4, 0, []int32{10, 11, 12, 13}}, {0, 4, 0, []int32{10, 11, 12, 13}}, {4, 0, 0, []int32{10, 11, 12, 13}},
		{5, 0, 0, nil}, {0, 5, 0, nil}, {-1, 0, 0, nil}, {0, -1, 0, nil}, {-1, 0, 1, nil}, {0, -1, 1, nil}, {0, 0, -1, nil}, {2, 2, -1, nil}, {4, 0, 1, nil}, {0, 4, 1, nil}, {3, 0, 2, nil}, {0, 3, 2, nil}, {0, 0, 5, nil},
		{math.MaxInt32, 0, math.MaxInt32, nil}, {0, math.MaxInt32, math.MaxInt32, nil}, {0, 0, math.MinInt32, nil}, {math.MinInt32, 0, math.MaxInt32, nil},
	} {
		m := New(join(fill, pushes(7, x.p, x.q), list(k(api.Move, x.k))), 4, 0, nil)
		m.Run(15)
		if x.want == nil {
			faults(t, "move", m)
			continue
		}
		m.Step()
		if got := lookAt(m); !got.same(look{operands: []int32{7}, words: x.want, pc: 16}) {
			t.Errorf("%+v: %+v", x, got)
		}
	}
}

// P9.2: Local: the frame's beginning and K, in 32 bits.
func TestLocal(t *testing.T) {
	for _, n := range []int32{0, 1, -4, 100, math.MaxInt32, math.MinInt32} {
		m := New(list(k(api.Local, n), op(api.Halt)), 9, 4, nil)
		m.Step()
		if got := m.Operands(); !slices.Equal(got, []int32{4 + n}) {
			t.Errorf("Local %d: %v", n, got)
		}
	}
}

// P9.2: Zero goes to K, if it is 0.
func TestZero(t *testing.T) {
	for _, x := range []struct {
		a  int32
		pc int
	}{{0, 9}, {1, 3}, {-1, 3}, {256, 3}, {math.MinInt32, 3}} {
		m := New(join(pushes(5, x.a), list(k(api.Zero, 9))), 0, 0, nil)
		m.Run(3)
		if got := lookAt(m); !got.same(look{operands: []int32{5}, pc: x.pc}) {
			t.Errorf("%d: %+v", x.a, got)
		}
	}
}

// P9.2: calls, frames, and the way back.
func TestFrames(t *testing.T) {
	m := New(list(
		k(api.CallTo, 2), op(api.Halt), // 0
		k(api.Enter, 3), k(api.Local, 1), k(api.Push, 8), op(api.Store), k(api.CallTo, 8), op(api.Leave), // 2
		k(api.Enter, 2), op(api.Leave)), // 8
		9, 2, nil)
	for i, want := range []look{
		{frame: 2, top: 2, pc: 2},
		{frame: 2, top: 5, pc: 3},
		{operands: []int32{3}, frame: 2, top: 5, pc: 4},
		{operands: []int32{3, 8}, frame: 2, top: 5, pc: 5},
		{frame: 2, top: 5, pc: 6},
		{frame: 2, top: 5, pc: 8},
		{frame: 5, top: 7, pc: 9},
		{frame: 2, top: 5, pc: 7},
		{frame: 2, top: 2, pc: 1},
		{frame: 2, top: 2, pc: 1, end: api.Halted},
	} {
		m.Step()
		want.words = make([]int32, 9)
		if i >= 4 {
			want.words[3] = 8
		}
		if got := lookAt(m); !got.same(want) {
			t.Errorf("%d: %+v, want %+v", i, got, want)
		}
	}
}

// P9.2: Enter's words are 0, whatever was there; it needs room.
func TestEnter(t *testing.T) {
	fill := join(pushes(1, 11), list(op(api.Store)), pushes(2, 12), list(op(api.Store)), pushes(3, 13), list(op(api.Store)))
	for _, x := range []struct {
		k    int32
		want []int32 // nil: a fault
		top  int
	}{
		{0, []int32{0, 11, 12, 13}, 1}, {1, []int32{0, 0, 12, 13}, 2}, {2, []int32{0, 0, 0, 13}, 3}, {3, []int32{0, 0, 0, 0}, 4},
		{4, nil, 0}, {-1, nil, 0}, {math.MaxInt32, nil, 0}, {math.MinInt32, nil, 0},
	} {
		m := New(join(fill, list(k(api.Enter, x.k))), 4, 1, nil)
		m.Run(9)
		if x.want == nil {
			faults(t, "enter", m)
			continue
		}
		m.Step()
		if got := lookAt(m); !got.same(look{words: x.want, frame: 1, top: x.top, pc: 10}) {
			t.Errorf("Enter %d: %+v", x.k, got)
		}
	}
	m := New(list(k(api.Enter, 1), k(api.Enter, 1), k(api.Enter, 1), k(api.Enter, 0)), 3, 0, nil)
	m.Run(4)
	if frame, top := m.Frame(); frame != 3 || top != 3 {
		t.Errorf("%d, %d", frame, top)
	}
}

// P9.2: a 1001st call that is kept is a fault; Leave without one, too.
func TestKept(t *testing.T) {
	m := New(list(k(api.CallTo, 0)), 0, 0, nil)
	if r := m.Run(1000); r.End != api.Running {
		t.Errorf("%+v", r)
	}
	faults(t, "one more", m)
	faults(t, "leave", New(list(op(api.Leave)), 5, 3, nil))
	m = New(list(k(api.CallTo, 1), op(api.Leave), op(api.Halt)), 5, 3, nil)
	m.Run(2)
	if m.PC() != 1 {
		t.Errorf("%d", m.PC())
	}
	faults(t, "leave again", m)
}

// P9.2: Raise, and PC where it ends.
func TestRaise(t *testing.T) {
	for n := int32(1); n <= 15; n++ {
		m := New(list(k(api.Push, 1), k(api.Raise, n)), 0, 0, nil)
		m.Run(2)
		if got := lookAt(m); !got.same(look{operands: []int32{1}, pc: 1, end: api.Trapped, trap: int(n)}) {
			t.Errorf("Raise %d: %+v", n, got)
		}
	}
	for _, n := range []int32{0, 16, -1, math.MaxInt32, math.MinInt32} {
		faults(t, "raise", New(list(k(api.Raise, n)), 0, 0, nil))
	}
}

// P9.2: the input, its end, and what is written.
func TestText(t *testing.T) {
	m := New(list(op(api.Endc), op(api.Getc), op(api.Endc), op(api.Getc), op(api.Endc), op(api.Getc), op(api.Getc), op(api.Endc), op(api.Halt)), 0, 0, []byte{200, 0})
	m.Run(20)
	if got := m.Operands(); !slices.Equal(got, []int32{0, 200, 0, 0, 1, 0, 0, 1}) {
		t.Errorf("%v", got)
	}
	m = New(join(pushes(65), list(op(api.Putc)), pushes(0x1242), list(op(api.Putc)), pushes(-1), list(op(api.Putc), op(api.Halt))), 0, 0, nil)
	if r := m.Run(20); string(r.Out) != "AB\xff" {
		t.Errorf("%q", r.Out)
	}
}

// P9.1: what is handed in is neither kept nor changed; what is told is new memory.
func TestNewMemory(t *testing.T) {
	l := join(pushes(65), list(op(api.Dup), op(api.Putc), op(api.Getc), op(api.Putc), op(api.Halt)))
	in := []byte("xyz")
	m := New(l, 2, 0, in[:1])
	clear(l)
	in[0] = 'q'
	m.Run(3)
	r, o := m.Result(), m.Operands()
	r.Out[0], o[0] = 'z', 99
	_, _ = append(r.Out, 1, 2, 3), append(o, 4, 5, 6)
	if r := m.Run(9); string(r.Out) != "Ax" || r.End != api.Halted || !slices.Equal(m.Operands(), []int32{65}) {
		t.Errorf("%q, %v", r.Out, m.Operands())
	}
	if string(in) != "qyz" {
		t.Errorf("%q", in)
	}
}

// plain is a machine as a plain reading of the chapter has it.
type plain struct {
	look
	kept [][2]int
	in   string
}

// lacks is what a plain machine panics with at a fault.
type lacks struct{}

func need(is bool) {
	if !is {
		panic(lacks{})
	}
}

// pop takes the topmost operand.
func (p *plain) pop() int64 {
	need(len(p.operands) > 0)
	x := p.operands[len(p.operands)-1]
	p.operands = p.operands[:len(p.operands)-1]
	return int64(x)
}

// push leaves the lowest 32 bits.
func (p *plain) push(x int64) {
	need(len(p.operands) < 1000)
	p.operands = append(p.operands, int32(x))
}

// truth pushes 1 or 0.
func (p *plain) truth(is bool) {
	p.push(map[bool]int64{true: 1}[is])
}

// step does one instruction on a copy; at a fault the old one stays.
func (p plain) step(l []api.Code) (after plain) {
	before := p
	defer func() {
		if recover() != nil {
			before.end, before.trap = api.Trapped, api.TrapFault
			after = before
		}
	}()
	p.operands, p.words, p.kept = slices.Clone(p.operands), slices.Clone(p.words), slices.Clone(p.kept)
	c := l[p.pc]
	n := int64(c.K)
	need(n == 0 || slices.Contains(strings.Fields("Push Local Move Jump Zero CallTo Enter Raise"), opName(c.Op)))
	p.pc++
	p.do(c.Op, n)
	if p.end != api.Running {
		p.pc--
	}
	return p
}

func opName(o int) string {
	switch o {
	case api.Push:
		return "Push"
	case api.Local:
		return "Local"
	case api.Move:
		return "Move"
	case api.Jump:
		return "Jump"
	case api.Zero:
		return "Zero"
	case api.CallTo:
		return "CallTo"
	case api.Enter:
		return "Enter"
	case api.Raise:
		return "Raise"
	}
	return ""
}

func (p *plain) do(o int, n int64) {
	size := int64(len(p.words))
	switch o {
	case api.Halt:
		p.end = api.Halted
	case api.Push:
		p.push(n)
	case api.Dup:
		x := p.pop()
		p.push(x)
		p.push(x)
	case api.Drop:
		p.pop()
	case api.Swap:
		b, a := p.pop(), p.pop()
		p.push(b)
		p.push(a)
	case api.Local:
		p.push(int64(p.frame) + n)
	case api.Load:
		at := p.pop()
		need(at >= 0 && at < size)
		p.push(int64(p.words[at]))
	case api.Store:
		x, at := p.pop(), p.pop()
		need(at >= 0 && at < size)
		p.words[at] = int32(x)
	case api.Move:
		q, to := p.pop(), p.pop()
		need(n >= 0 && q >= 0 && to >= 0 && q+n <= size && to+n <= size)
		old := slices.Clone(p.words)
		for i := range n {
			p.words[to+i] = old[q+i]
		}
	case api.CNeg:
		p.push(-p.pop())
	case api.CInv:
		p.push(-p.pop() - 1)
	case api.Jump:
		p.pc = int(n)
	case api.Zero:
		if p.pop() == 0 {
			p.pc = int(n)
		}
	case api.CallTo:
		need(len(p.kept) < 1000)
		p.kept = append(p.kept, [2]int{p.pc, p.frame})
		p.pc = int(n)
	case api.Enter:
		need(n >= 0 && int64(p.top)+n <= size)
		p.frame, p.top = p.top, p.top+int(n)
		for i := p.frame; i < p.top; i++ {
			p.words[i] = 0
		}
	case api.Leave:
		need(len(p.kept) > 0)
		p.top = p.frame
		p.pc, p.frame = p.kept[len(p.kept)-1][0], p.kept[len(p.kept)-1][1]
		p.kept = p.kept[:len(p.kept)-1]
	case api.Raise:
		need(n >= 1 && n <= 15)
		p.end, p.trap = api.Trapped, int(n)
	case api.Getc:
		if p.in == "" {
			p.push(0)
			break
		}
		p.push(int64(p.in[0]))
		p.in = p.in[1:]
	case api.Endc:
		p.truth(p.in == "")
	case api.Putc:
		p.out += string([]byte{byte(p.pop())})
	default:
		b, a := p.pop(), p.pop()
		p.two(o, a, b)
	}
}

// two leaves what an operation makes of two.
func (p *plain) two(o int, a, b int64) {
	low := uint(b & 31)
	switch o {
	case api.CAdd:
		p.push(a + b)
	case api.CSub:
		p.push(a - b)
	case api.CMul:
		p.push(a * b)
	case api.CDiv:
		need(b > 0)
		p.push((a - ((a%b)+b)%b) / b)
	case api.CMod:
		need(b > 0)
		p.push(((a % b) + b) % b)
	case api.CAnd:
		p.push(a & b)
	case api.COr:
		p.push(a | b)
	case api.CXor:
		p.push(a ^ b)
	case api.CLsl:
		p.push(a << low)
	case api.CAsr:
		p.push(a >> low)
	case api.CRor:
		u := uint64(uint32(a))
		p.push(int64(int32(uint32(u>>low | u<<(32-low)))))
	case api.CEq:
		p.truth(a == b)
	case api.CLt:
		p.truth(a < b)
	case api.CLe:
		p.truth(a <= b)
	default:
		need(false)
	}
}

// P9.1, P9.2, P9.4: programs by chance, step by step, against the plain machine.
func TestByChance(t *testing.T) {
	chance := rand.New(rand.NewSource(91))
	for range 20000 {
		l := make([]api.Code, 30)
		for i := range l {
			l[i].Op = chance.Intn(api.Ops)
			if chance.Intn(2) == 0 {
				l[i].Op = api.Push
			}
			if chance.Intn(60) == 0 {
				l[i].Op = chance.Intn(3*api.Ops) - api.Ops
			}
			if opName(l[i].Op) != "" || chance.Intn(80) == 0 {
				l[i].K = int32(chance.Intn(12) - 1)
				if chance.Intn(20) == 0 {
					l[i].K = chance.Int31() - chance.Int31()
				}
			}
		}
		words, base := chance.Intn(12), chance.Intn(4)
		p := plain{look: look{words: make([]int32, words), frame: min(base, words), top: min(base, words)}, in: "a\xfeb"}
		m := New(l, words, base, []byte(p.in))
		for step := 0; step < 60 && p.end == api.Running; step++ {
			p = p.step(l)
			if !m.Step() {
				t.Fatalf("%v: no step", l)
			}
			if got := lookAt(m); !got.same(p.look) {
				t.Fatalf("%v: %+v, want %+v", l, got, p.look)
			}
		}
		if p.end != api.Running && m.Step() {
			t.Fatalf("%v: a step behind the end", l)
		}
	}
}
