package riscvm

import (
	"math"
	"math/big"
	"math/rand"
	"slices"
	"strings"
	"testing"

	"wafer/api"
	"wafer/risc"
)

// Instructions, as the tests write them.

func num(op, a, b int, imm int32) api.Instr { return api.Instr{F: 1, A: a, B: b, Op: op, Imm: imm} }
func reg(op, a, b, c int) api.Instr         { return api.Instr{F: 0, A: a, B: b, Op: op, C: c} }
func ldr(a, b int, imm int32) api.Instr     { return api.Instr{F: 2, A: a, B: b, Imm: imm} }
func str(a, b int, imm int32) api.Instr     { return api.Instr{F: 2, U: true, A: a, B: b, Imm: imm} }
func to(cond int, imm int32) api.Instr      { return api.Instr{F: 3, U: true, A: cond, Imm: imm} }
func toReg(cond, c int) api.Instr           { return api.Instr{F: 3, A: cond, C: c} }
func ends(trap int32) api.Instr             { return api.Instr{F: 3, V: true, A: 7, C: 12, Imm: trap} }

// with tells an instruction with U and V so.
func with(i api.Instr, u, v bool) api.Instr {
	i.U, i.V = u, v
	return i
}

// whole tells instructions that bring all of v into a register.
func whole(a int, v uint32) []api.Instr {
	return []api.Instr{with(num(mov, a, 0, int32(v>>16)), true, false), num(ior, a, a, int32(v&0xffff))}
}

// words tells the words of a program.
func words(t *testing.T, l ...[]api.Instr) []uint32 {
	t.Helper()
	var code []uint32
	for _, part := range l {
		for _, i := range part {
			w, err := risc.Encode(i)
			if err != api.OK {
				t.Fatalf("%+v: %v", i, err)
			}
			code = append(code, w)
		}
	}
	return code
}

// one tells a list of instructions.
func one(l ...api.Instr) []api.Instr { return l }

// look is all that a machine's calls tell, but its words.
type look struct {
	reg        [16]uint32
	n, z, c, v bool
	pc         int
	out        string
	end, trap  int
}

// lookAt tells that of a machine.
func lookAt(m *Machine) look {
	var l look
	for i := range l.reg {
		l.reg[i], _ = m.Reg(i)
	}
	l.n, l.z, l.c, l.v = m.Flags()
	l.pc = m.PC()
	r := m.Result()
	l.out, l.end, l.trap = string(r.Out), r.End, r.Trap
	return l
}

// memory tells a machine's words.
func memory(m *Machine) []uint32 {
	var l []uint32
	for i := 0; ; i++ {
		w, ok := m.Word(i)
		if !ok {
			return l
		}
		l = append(l, w)
	}
}

// isResult tells whether a result is that one.
func isResult(r api.Result, out string, end, trap int) bool {
	return string(r.Out) == out && r.End == end && r.Trap == trap
}

// edges are numbers at which reckoning turns.
func edges() []uint32 {
	l := []uint32{0, 1, 2, 3, 5, 7, 31, 32, 33, 100, 65535, 65536, 1<<31 - 2, 1<<31 - 1, 1 << 31, 1<<31 + 1, 1<<32 - 65536, 1<<32 - 33, 1<<32 - 32, 1<<32 - 7, 1<<32 - 2, 1<<32 - 1, 0x12345678, 0xdeadbeef}
	chance := rand.New(rand.NewSource(61))
	for range 12 {
		l = append(l, chance.Uint32())
	}
	return l
}

// P6.1: a new machine: all is 0, words from 0 to 2^20.
func TestNew(t *testing.T) {
	for _, x := range []struct{ words, want int }{{0, 0}, {1, 1}, {5, 5}, {-1, 0}, {math.MinInt, 0}, {1 << 20, 1 << 20}, {1<<20 - 1, 1<<20 - 1}, {1<<20 + 1, 1 << 20}, {math.MaxInt, 1 << 20}} {
		m := New(nil, x.words, nil)
		if l := lookAt(m); l != (look{}) {
			t.Errorf("%d words: %+v", x.words, l)
		}
		l := memory(m)
		if len(l) != x.want {
			t.Errorf("%d words: %d", x.words, len(l))
		}
		for i, w := range l {
			if w != 0 {
				t.Fatalf("%d words: word %d is %d", x.words, i, w)
			}
		}
	}
}

// P6.1: H is 0 at first.
func TestHighAtFirst(t *testing.T) {
	m := New(words(t, one(num(mov, 1, 0, 9), with(reg(mov, 1, 0, 0), true, false))), 0, nil)
	m.Run(2)
	if v, _ := m.Reg(1); v != 0 {
		t.Errorf("H: %d", v)
	}
}

// P6.5: false, 0 of registers and words that aren't.
func TestNoSuch(t *testing.T) {
	m := New(words(t, whole(15, 77)), 3, nil)
	m.Run(2)
	for _, i := range []int{-1, 16, 17, 1 << 32, math.MaxInt, math.MinInt} {
		if v, ok := m.Reg(i); v != 0 || ok {
			t.Errorf("Reg(%d): %d, %v", i, v, ok)
		}
	}
	for _, i := range []int{-1, 3, 4, 1 << 20, 1 << 32, math.MaxInt, math.MinInt} {
		if v, ok := m.Word(i); v != 0 || ok {
			t.Errorf("Word(%d): %d, %v", i, v, ok)
		}
	}
	if v, ok := m.Reg(15); v != 77 || !ok {
		t.Errorf("Reg(15): %d, %v", v, ok)
	}
	if v, ok := m.Word(2); v != 0 || !ok {
		t.Errorf("Word(2): %d, %v", v, ok)
	}
}

// P6.1: Step is true of the instruction that ends the run, then false, and nothing more is done.
func TestStep(t *testing.T) {
	m := New(words(t, one(num(mov, 1, 0, 3), ends(0), num(mov, 1, 0, 4))), 0, nil)
	for i, want := range []look{{reg: [16]uint32{1: 3}, pc: 1}, {reg: [16]uint32{1: 3}, pc: 1, end: api.Halted}} {
		if ok := m.Step(); !ok || lookAt(m) != want {
			t.Errorf("step %d: %v, %+v", i, ok, lookAt(m))
		}
	}
	for range 3 {
		if before := lookAt(m); m.Step() || lookAt(m) != before {
			t.Errorf("behind the end: %+v", lookAt(m))
		}
	}
	m = New(nil, 0, nil)
	if !m.Step() || m.Step() || lookAt(m) != (look{end: api.Trapped, trap: api.TrapFault}) {
		t.Errorf("without code: %+v", lookAt(m))
	}
}

// P6.1: Run does at most fuel Steps, and goes on where it was.
func TestRun(t *testing.T) {
	code := words(t, one(num(mov, 1, 0, 'a'), with(num(mov, 2, 0, 65472), false, true), str(1, 2, 0), num(add, 1, 1, 1), to(7, -3)))
	m := New(code, 0, nil)
	for _, fuel := range []int{0, -1, math.MinInt} {
		if r := m.Run(fuel); !isResult(r, "", api.Running, 0) || lookAt(m) != (look{}) {
			t.Fatalf("fuel %d: %+v, %+v", fuel, r, lookAt(m))
		}
	}
	single := New(code, 0, nil)
	for fuel := range 9 {
		r := m.Run(fuel)
		for range fuel {
			if !single.Step() {
				t.Fatal("a Step is missing")
			}
		}
		if lookAt(m) != lookAt(single) || !isResult(r, lookAt(m).out, api.Running, 0) {
			t.Fatalf("fuel %d: %+v, want %+v", fuel, lookAt(m), lookAt(single))
		}
	}
	if r := m.Run(9); string(r.Out) != "abcdefghijklmno"[:len(r.Out)] || len(r.Out) < 10 {
		t.Errorf("Run: %q", r.Out)
	}
	m = New(words(t, one(num(mov, 1, 0, 2), ends(4))), 0, nil)
	if r := m.Run(1); !isResult(r, "", api.Running, 0) {
		t.Errorf("ahead of its end: %+v", r)
	}
	if r := m.Run(math.MaxInt); !isResult(r, "", api.Trapped, 4) || m.PC() != 1 {
		t.Errorf("at its end: %+v", r)
	}
	if r := m.Run(math.MaxInt); !isResult(r, "", api.Trapped, 4) {
		t.Errorf("behind its end: %+v", r)
	}
}

// faults are instructions that fault where R1 is 5, R2 -64, R3 -60, R4 2^20 + 1, R5 8, R6 -1, of 2 words.
func faults() []api.Instr {
	l := []api.Instr{
		ldr(7, 0, 8), str(7, 0, 8), ldr(7, 0, 1), ldr(7, 0, 2), ldr(7, 0, 3), str(7, 0, 1), ldr(7, 0, 7), str(7, 0, 6), ldr(7, 5, 0), str(7, 5, 0), ldr(7, 1, 0),
		ldr(7, 2, 1), ldr(7, 2, -1), ldr(7, 2, -4), ldr(7, 2, 8), ldr(7, 3, 4), ldr(7, 3, -1), ldr(7, 3, 56), ldr(7, 6, 0), ldr(7, 0, -1<<19), ldr(7, 0, 1<<19-1),
		str(7, 3, 0), str(7, 0, -60), str(7, 2, 1), str(7, 2, -1), str(7, 6, 0), str(7, 0, -1<<19),
		num(div, 7, 1, 0), reg(div, 7, 1, 0), reg(div, 7, 1, 6), with(num(div, 7, 1, 1), false, true), with(num(div, 7, 1, 0), true, false), with(reg(div, 7, 1, 6), true, true),
		toReg(7, 4), toReg(7, 6), with(toReg(7, 4), false, true), to(7, -100), with(to(7, -100), true, true), to(7, -1<<23), to(7, 1<<20), with(to(7, 1<<23-1), true, true),
	}
	for _, place := range []int32{0, 4, -64, -60} {
		l = append(l, with(ldr(7, 0, place), false, true), with(str(7, 0, place), true, true))
	}
	for op := 12; op < 16; op++ {
		for uv := range 4 {
			l = append(l, with(num(op, 7, 1, 1), uv&1 == 1, uv&2 == 2), with(reg(op, 7, 1, 1), uv&1 == 1, uv&2 == 2))
		}
	}
	return l
}

// P6.1, P6.2, P6.3, P6.4: a fault ends the run, and nothing else is changed.
func TestFaults(t *testing.T) {
	ahead := [][]api.Instr{whole(1, 5), whole(2, 1<<32-64), whole(3, 1<<32-60), whole(4, 1<<20+1), whole(5, 8), whole(6, 1<<32-1), whole(7, 1<<31), whole(15, 99),
		one(num(mov, 8, 0, 'x'), str(8, 2, 0), str(1, 0, 4), reg(add, 9, 7, 6))}
	start := words(t, ahead...)
	bad := []uint32{0x00000010, 0x0000fff0, 0x00008000, 0x10001000, 0xc0000100, 0xc7800000, 0xd700010c, 0xd780000c}
	for _, i := range faults() {
		bad = append(bad, words(t, one(i))...)
	}
	for _, w := range bad {
		code := append(append([]uint32(nil), start...), w, words(t, one(ends(0)))[0])
		m := New(code, 2, []byte("in"))
		if r := m.Run(len(start)); !isResult(r, "x", api.Running, 0) {
			t.Fatalf("ahead of %08x: %+v", w, r)
		}
		want, mem := lookAt(m), memory(m)
		if want.pc != len(start) || !want.c || !want.v {
			t.Fatalf("ahead of %08x: %+v", w, want)
		}
		want.end, want.trap = api.Trapped, api.TrapFault
		if !m.Step() || lookAt(m) != want || !slices.Equal(mem, memory(m)) {
			t.Errorf("%08x: %+v, want %+v", w, lookAt(m), want)
		}
		if m.Step() || lookAt(m) != want {
			t.Errorf("behind %08x: %+v", w, lookAt(m))
		}
	}
}

// P6.1: PC outside of code faults where it comes to: past the last one, by a branch ahead, by a register.
func TestOutside(t *testing.T) {
	for i, x := range []struct {
		code []api.Instr
		pc   int
	}{
		{nil, 0},
		{one(num(mov, 1, 0, 1)), 1},
		{one(num(mov, 1, 0, 1), num(mov, 1, 0, 1)), 2},
		{one(to(7, 0)), 1},
		{one(to(7, 1<<20-1)), 1 << 20},
		{append(whole(1, 1<<20), toReg(7, 1)), 1 << 20},
		{append(whole(1, 4), toReg(7, 1)), 4},
	} {
		m := New(words(t, x.code), 0, nil)
		m.Run(len(x.code))
		if l := lookAt(m); l.end != api.Running || l.pc != x.pc {
			t.Fatalf("%d: %+v", i, l)
		}
		if r := m.Run(5); !isResult(r, "", api.Trapped, api.TrapFault) || m.PC() != x.pc {
			t.Errorf("%d: %+v at %d", i, r, m.PC())
		}
	}
	for _, i := range []api.Instr{to(7, 1<<20), to(7, -2)} {
		m := New(words(t, one(i)), 0, nil)
		if r := m.Run(1); !isResult(r, "", api.Trapped, api.TrapFault) || m.PC() != 0 {
			t.Errorf("%+v: %+v at %d", i, r, m.PC())
		}
	}
	m := New(words(t, one(num(mov, 1, 0, 0), to(7, -2))), 0, nil)
	if m.Run(2); m.PC() != 0 || m.Result().End != api.Running {
		t.Errorf("to the first one: %+v", lookAt(m))
	}
}

// reckoned is what an operation tells: RA, H, C, V; is says whether there is such.
type reckoned struct {
	r, h uint32
	c, v bool
	is   bool
}

// signedOf tells 32 bits as a number whose highest bit counts negatively.
func signedOf(v uint32) *big.Int {
	n := big.NewInt(int64(v))
	if v > math.MaxInt32 {
		n.Sub(n, big.NewInt(1<<32))
	}
	return n
}

// lowest tells a number's lowest 32 bits, from a place on.
func lowest(n *big.Int, from uint) uint32 {
	s := new(big.Int).Rsh(n, from)
	return uint32(s.And(s, big.NewInt(math.MaxUint32)).Uint64())
}

// fits tells whether a number is from least to most.
func fits(n *big.Int, least, most int64) bool {
	return n.Cmp(big.NewInt(least)) >= 0 && n.Cmp(big.NewInt(most)) <= 0
}

// reckon tells what an operation tells by numbers of any size, of b and n, with H h and C, V so.
func reckon(f, op int, u bool, b, n, h uint32, c, v bool) reckoned {
	x := reckoned{h: h, c: c, v: v, is: true}
	one := big.NewInt(0)
	if u && c {
		one.SetInt64(1)
	}
	z, s := new(big.Int), new(big.Int)
	switch op {
	case 0:
		x.r = n
		if u && f == 0 {
			x.r = h
		} else if u {
			x.r = n % 65536 * 65536
		}
	case 1:
		x.r = lowest(z.Lsh(big.NewInt(int64(b)), uint(n%32)), 0)
	case 2:
		x.r = lowest(z.Rsh(signedOf(b), uint(n%32)), 0)
	case 3:
		twice := z.Add(z.Lsh(big.NewInt(int64(b)), 32), big.NewInt(int64(b)))
		x.r = lowest(twice, uint(n%32))
	case 4, 5, 6, 7:
		for k := range 32 {
			p, q := b>>k&1 == 1, n>>k&1 == 1
			if op == 4 && p && q || op == 5 && p && !q || op == 6 && (p || q) || op == 7 && p != q {
				x.r += 1 << k
			}
		}
	case 8:
		z.Add(z.Add(big.NewInt(int64(b)), big.NewInt(int64(n))), one)
		s.Add(s.Add(signedOf(b), signedOf(n)), one)
		x.r, x.c, x.v = lowest(z, 0), !fits(z, 0, math.MaxUint32), !fits(s, math.MinInt32, math.MaxInt32)
	case 9:
		z.Sub(z.Sub(big.NewInt(int64(b)), big.NewInt(int64(n))), one)
		s.Sub(s.Sub(signedOf(b), signedOf(n)), one)
		x.r, x.c, x.v = lowest(z, 0), z.Sign() < 0, !fits(s, math.MinInt32, math.MaxInt32)
	case 10:
		z.Mul(signedOf(b), signedOf(n))
		if u {
			z.Mul(big.NewInt(int64(b)), big.NewInt(int64(n)))
		}
		x.r, x.h = lowest(z, 0), lowest(z, 32)
	case 11:
		if signedOf(n).Sign() < 1 {
			return reckoned{}
		}
		// Of a divisor above 0, Euclid's quotient is the one rounded down.
		q, r := z.DivMod(signedOf(b), signedOf(n), s)
		x.r, x.h = lowest(q, 0), lowest(r, 0)
	default:
		return reckoned{}
	}
	return x
}

// carries tells instructions that make C, V so, by R0, R14.
func carries(c, v bool) []api.Instr {
	switch {
	case c && v:
		return append(whole(14, 1<<31), reg(add, 14, 14, 14))
	case c:
		return append(whole(14, 1<<32-1), num(add, 14, 14, 1))
	case v:
		return append(whole(14, 1<<31-1), num(add, 14, 14, 1))
	default:
		return append(whole(14, 1), num(add, 14, 14, 1))
	}
}

// P6.2: all operations of registers and of numbers, with U and V, whatever C, V and H are, against numbers of any size.
func TestReckoning(t *testing.T) {
	h := append(whole(13, 0x89abcdef), append(whole(14, 1<<16), with(reg(mul, 14, 13, 14), true, false))...) // H 89ab
	for op := range 16 {
		for bits := range 16 {
			u, v, c, over := bits&1 == 1, bits&2 == 2, bits&4 == 4, bits&8 == 8
			ahead := words(t, h, carries(c, over))
			for _, b := range edges() {
				for _, n := range edges() {
					checkReckoned(t, ahead, with(reg(op, 3, 1, 2), u, v), b, n, n, c, over)
					k := n & 0xffff
					if v {
						k |= 0xffff0000
					}
					checkReckoned(t, ahead, with(num(op, 3, 1, int32(n&0xffff)), u, v), b, n, k, c, over)
				}
			}
		}
	}
}

// checkReckoned does i behind ahead, where R1 is b, R2 n, and then looks at H; the operand is k.
func checkReckoned(t *testing.T, ahead []uint32, i api.Instr, b, n, k uint32, c, v bool) {
	t.Helper()
	code := append(append([]uint32(nil), ahead...), words(t, whole(1, b), whole(2, n), one(i, with(reg(mov, 4, 0, 0), true, false)))...)
	m := New(code, 0, nil)
	m.Run(len(code) - 1)
	want := reckon(i.F, i.Op, i.U, b, k, 0x89ab, c, v)
	if !want.is {
		if l := lookAt(m); l.end != api.Trapped || l.trap != api.TrapFault || l.reg[3] != 0 || l.c != c || l.v != v || l.pc != len(code)-2 {
			t.Fatalf("%s, %08x by %08x: %+v", risc.Text(i), b, k, l)
		}
		return
	}
	l := lookAt(m)
	m.Run(1)
	high, _ := m.Reg(4)
	if l.reg[3] != want.r || high != want.h || l.n != (want.r > math.MaxInt32) || l.z != (want.r == 0) || l.c != want.c || l.v != want.v || l.pc != len(code)-1 || l.end != api.Running {
		t.Fatalf("%s, %08x by %08x, C %v, V %v: %+v, H %08x, want %+v", risc.Text(i), b, k, c, v, l, high, want)
	}
	if l.reg[1] != b || l.reg[2] != n {
		t.Fatalf("%s: operands changed: %+v", risc.Text(i), l)
	}
}

// P6.2: a register may be both operands and the answer.
func TestSameRegister(t *testing.T) {
	for _, x := range []struct {
		op   int
		want uint32
	}{{mov, 6}, {lsl, 6 << 6}, {and, 6}, {ann, 0}, {xor, 0}, {add, 12}, {sub, 0}, {mul, 36}, {div, 1}} {
		m := New(words(t, whole(5, 6), one(reg(x.op, 5, 5, 5))), 0, nil)
		m.Run(3)
		if v, _ := m.Reg(5); v != x.want {
			t.Errorf("%d: %d, want %d", x.op, v, x.want)
		}
	}
}

// P6.2: by hand.
func TestReckoningByHand(t *testing.T) {
	for k, x := range []struct {
		b, n   uint32
		i      api.Instr
		r      uint32
		n1, z1 bool
		c, v   bool
	}{
		{0, 0, num(mov, 3, 0, 65535), 65535, false, false, false, false},
		{0, 0, with(num(mov, 3, 0, 65535), false, true), 1<<32 - 1, true, false, false, false},
		{0, 0, with(num(mov, 3, 0, 0), false, true), 1<<32 - 65536, true, false, false, false},
		{0, 0, with(num(mov, 3, 0, 32768), true, false), 1 << 31, true, false, false, false},
		{0, 0, with(num(mov, 3, 0, 1), true, true), 1 << 16, false, false, false, false},
		{1<<32 - 1, 1, reg(add, 3, 1, 2), 0, false, true, true, false},
		{1<<31 - 1, 1, reg(add, 3, 1, 2), 1 << 31, true, false, false, true},
		{1 << 31, 1 << 31, reg(add, 3, 1, 2), 0, false, true, true, true},
		{0, 1, reg(sub, 3, 1, 2), 1<<32 - 1, true, false, true, false},
		{1 << 31, 1, reg(sub, 3, 1, 2), 1<<31 - 1, false, false, false, true},
		{0, 1 << 31, reg(sub, 3, 1, 2), 1 << 31, true, false, true, true},
		{5, 5, reg(sub, 3, 1, 2), 0, false, true, false, false},
		{10, 0, with(num(sub, 3, 1, 65535), false, true), 11, false, false, true, false},
		{1<<32 - 7, 2, reg(div, 3, 1, 2), 1<<32 - 4, true, false, false, false},
		{1 << 31, 31, reg(asr, 3, 1, 2), 1<<32 - 1, true, false, false, false},
		{1, 33, reg(lsl, 3, 1, 2), 2, false, false, false, false},
		{1, 1, reg(ror, 3, 1, 2), 1 << 31, true, false, false, false},
		{12, 10, reg(ann, 3, 1, 2), 4, false, false, false, false},
	} {
		m := New(words(t, whole(1, x.b), whole(2, x.n), one(x.i)), 0, nil)
		m.Run(5)
		l := lookAt(m)
		if l.reg[3] != x.r || l.n != x.n1 || l.z != x.z1 || l.c != x.c || l.v != x.v {
			t.Errorf("%d, %s: %+v, want %08x", k, risc.Text(x.i), l, x.r)
		}
	}
}

// P6.3: words: what is kept at a place is there, and elsewhere nothing; N, Z only of what is loaded.
func TestWordsOfMemory(t *testing.T) {
	m := New(words(t, whole(1, 0x80000001), whole(2, 8), one(num(mov, 3, 0, 0), str(1, 2, -4), str(2, 2, 4), ldr(4, 0, 4), ldr(5, 2, -8), ldr(6, 2, 4), str(5, 0, 12))), 4, nil)
	m.Run(5)
	for i, want := range []struct {
		n, z bool
		r    int
		v    uint32
	}{{false, true, 1, 0x80000001}, {false, true, 2, 8}, {true, false, 4, 0x80000001}, {false, true, 5, 0}, {false, false, 6, 8}, {false, false, 5, 0}} {
		m.Step()
		if l := lookAt(m); l.n != want.n || l.z != want.z || l.reg[want.r] != want.v || l.pc != 6+i || l.c || l.v {
			t.Errorf("%d: %+v, want %+v", i, l, want)
		}
	}
	for i, want := range []uint32{0, 0x80000001, 0, 0} {
		if w, ok := m.Word(i); w != want || !ok {
			t.Errorf("word %d: %08x", i, w)
		}
	}
	if r := m.Run(1); r.End != api.Trapped || len(r.Out) != 0 {
		t.Errorf("at its end: %+v", r)
	}
}

// P6.3: the place is reckoned in 32 bits: it wraps; the last word, and the one behind.
func TestPlaces(t *testing.T) {
	for k, x := range []struct {
		base uint32
		imm  int32
		word int // -1: fault
	}{
		{0, 0, 0}, {4, -4, 0}, {1<<32 - 4, 8, 1}, {1<<32 - 4, 4, 0}, {1 << 19, -1 << 19, 0}, {0, 1<<19 - 4, 1<<17 - 1}, {1<<22 - 4, 0, 1<<20 - 1}, {1 << 22, -4, 1<<20 - 1},
		{1 << 22, 0, -1}, {1<<22 - 4, 1, -1}, {3, 1, 1}, {3, 0, -1}, {3, 3, -1}, {1<<32 - 128, 0, -1}, {1 << 31, 0, -1}, {1<<31 + 4, 0, -1},
	} {
		m := New(words(t, whole(1, x.base), whole(2, 0xfeedface), one(str(2, 1, x.imm), ldr(3, 1, x.imm))), 1<<20, nil)
		r := m.Run(6)
		if x.word < 0 {
			if !isResult(r, "", api.Trapped, api.TrapFault) || m.PC() != 4 {
				t.Errorf("%d: %+v at %d", k, r, m.PC())
			}
			continue
		}
		w, _ := m.Word(x.word)
		v, _ := m.Reg(3)
		if !isResult(r, "", api.Running, 0) || w != 0xfeedface || v != w {
			t.Errorf("%d: %+v, %08x, %08x", k, r, w, v)
		}
	}
}

// P6.3: the input, byte by byte, whether it is at its end, and bytes written.
func TestText(t *testing.T) {
	m := New(words(t, whole(1, 1<<32-64), one(ldr(2, 1, 4), ldr(3, 1, 0), str(3, 0, -64), to(7, -4))), 1, []byte("a\x00\xffz"))
	m.Run(2)
	for i, want := range []uint32{'a', 0, 255, 'z', 0, 0, 0} {
		end := i >= 4
		m.Step()
		if l := lookAt(m); (l.reg[2] == 1) != end || l.reg[2] > 1 || l.n || l.z == end {
			t.Fatalf("at the end: %+v", l)
		}
		m.Step()
		if l := lookAt(m); l.reg[3] != want || l.n || l.z != (want == 0) {
			t.Fatalf("byte: %+v, want %d", l, want)
		}
		m.Run(2)
	}
	if r := m.Result(); !isResult(r, "a\x00\xffz\x00\x00\x00", api.Running, 0) {
		t.Errorf("written: %q", r.Out)
	}
	m = New(words(t, whole(1, 0x12345641), one(str(1, 0, -64), ldr(2, 0, -60))), 0, nil)
	if m.Run(4); string(m.Result().Out) != "A" || lookAt(m).reg[2] != 1 {
		t.Errorf("the lowest byte: %+v", lookAt(m))
	}
}

// P6.4: all conditions, of all flags that there are at once, by U and by a register.
func TestConditions(t *testing.T) {
	for bits := range 12 {
		c, v, k := bits&1 == 1, bits&2 == 2, bits/4
		n, z := k == 1, k == 2
		ahead := append(carries(c, v), whole(1, []uint32{5, 1 << 31, 0}[k])...)
		holds := []bool{n, z, c, v, c || z, n != v, n != v || z, true}
		for cond := range 16 {
			want := holds[cond%8] == (cond < 8)
			for _, i := range one(to(cond, 3), toReg(cond, 2), with(to(cond, 3), true, true), with(toReg(cond, 2), false, true), with(toReg(cond, 12), false, true)) {
				code := words(t, whole(2, 9), ahead, one(i))
				m := New(code, 0, nil)
				m.Run(len(code) - 1)
				l := lookAt(m)
				if l.n != n || l.z != z || l.c != c || l.v != v || l.reg[2] != 9 {
					t.Fatalf("flags: %+v", l)
				}
				m.Step()
				switch {
				case !want:
					l.pc = len(code)
				case i.C == 12:
					l.end = api.Halted
				case i.U:
					l.pc = len(code) + 3
				default:
					l.pc = 9
				}
				if want && i.V && i.C != 12 {
					l.reg[15] = uint32(len(code))
				}
				if lookAt(m) != l {
					t.Fatalf("%s: %+v, want %+v", risc.Text(i), lookAt(m), l)
				}
			}
		}
	}
}

// P6.4: how a run ends: by a call of register 12 alone, whatever is in it; PC and R15 stay.
func TestEnds(t *testing.T) {
	for trap := range int32(16) {
		m := New(words(t, whole(12, 1<<31), whole(15, 4), one(ends(trap))), 0, nil)
		r := m.Run(10)
		end := api.Trapped
		if trap == 0 {
			end = api.Halted
		}
		if !isResult(r, "", end, int(trap)) || m.PC() != 4 || lookAt(m).reg[15] != 4 || m.Step() {
			t.Errorf("%d: %+v", trap, r)
		}
	}
	for c := range 16 {
		for trap := range int32(16) {
			call, jump := api.Instr{F: 3, V: true, A: 7, C: c, Imm: trap}, api.Instr{F: 3, A: 7, C: c, Imm: trap}
			m := New(words(t, whole(c, 7), one(call)), 0, nil)
			if m.Run(3); c != 12 && (m.PC() != 7 || m.Result().End != api.Running || lookAt(m).reg[15] != 3) {
				t.Errorf("a call of R%d: %+v", c, lookAt(m))
			}
			m = New(words(t, whole(c, 7), one(jump)), 0, nil)
			if m.Run(3); m.PC() != 7 || m.Result().End != api.Running {
				t.Errorf("to R%d: %+v", c, lookAt(m))
			}
		}
	}
	m := New(words(t, one(with(to(7, 12), true, true))), 0, nil)
	if m.Run(1); m.PC() != 13 || m.Result().End != api.Running || lookAt(m).reg[15] != 1 {
		t.Errorf("a call with U: %+v", lookAt(m))
	}
}

// P6.4: a call by R15 goes where R15 said.
func TestCallByLink(t *testing.T) {
	m := New(words(t, whole(15, 5), one(with(toReg(7, 15), false, true))), 0, nil)
	if m.Run(3); m.PC() != 5 || lookAt(m).reg[15] != 3 {
		t.Errorf("%+v", lookAt(m))
	}
}

// P6.1 to P6.4: programs: the input upside down by words, and a loop within a procedure.
func TestPrograms(t *testing.T) {
	back := words(t, one(
		num(mov, 1, 0, 0),
		ldr(2, 0, -60), to(1, 1), to(7, 4),
		ldr(2, 0, -64), str(2, 1, 0), num(add, 1, 1, 4), to(7, -7),
		num(sub, 1, 1, 4), to(0, 3), ldr(2, 1, 0), str(2, 0, -64), to(7, -5),
		ends(0)))
	text := strings.Repeat("wafer, a small Oberon. ", 20)
	var want []byte
	for i := range text {
		want = append(want, text[len(text)-1-i])
	}
	if r := New(back, len(text), []byte(text)).Run(1 << 20); !isResult(r, string(want), api.Halted, 0) {
		t.Errorf("upside down: %+v", r)
	}
	if r := New(back, len(text)-1, []byte(text)).Run(1 << 20); !isResult(r, "", api.Trapped, api.TrapFault) {
		t.Errorf("a word too few: %+v", r)
	}
	digits := words(t, one(num(mov, 1, 0, 12345), num(mov, 14, 0, 0), with(to(7, 1), true, true), ends(0)),
		one(num(div, 1, 1, 10), with(reg(mov, 3, 0, 0), true, false), num(add, 3, 3, '0'), str(3, 14, 0), num(add, 14, 14, 4), reg(mov, 1, 1, 1), to(9, -7)),
		one(num(sub, 14, 14, 4), to(0, 3), ldr(3, 14, 0), str(3, 0, -64), to(7, -5), toReg(7, 15)))
	if r := New(digits, 5, nil).Run(1 << 20); !isResult(r, "12345", api.Halted, 0) {
		t.Errorf("digits: %+v", r)
	}
}

// P6.1: what is handed in isn't kept, nor changed; what is told is new memory.
func TestNewMemory(t *testing.T) {
	code := words(t, one(ldr(1, 0, -64), str(1, 0, -64), to(7, -3)))
	in := []byte("abc")
	m := New(code, 4, in)
	m.Run(2)
	r := m.Result()
	clear(code)
	clear(in)
	for i := range r.Out[:cap(r.Out)] {
		r.Out[:cap(r.Out)][i] = '!'
	}
	if r := m.Run(7); string(r.Out) != "abc" {
		t.Errorf("changed from outside: %q", r.Out)
	}
	code = words(t, one(ldr(1, 0, -64), str(1, 0, 0), to(7, -3)))
	in = []byte("abc")
	before := slices.Clone(code)
	New(code, 4, in).Run(100)
	if !slices.Equal(code, before) || string(in) != "abc" {
		t.Errorf("changed: %08x, %q", code, in)
	}
}

// P6.1, P6.6: of any words a run ends or goes on, the same again, and never is a panic.
func TestAnyWords(t *testing.T) {
	chance := rand.New(rand.NewSource(62))
	ended := map[int]int{}
	for range 3000 {
		code := make([]uint32, chance.Intn(30))
		for i := range code {
			code[i] = chance.Uint32()
			switch chance.Intn(4) {
			case 0:
				code[i] &= 0x7ff0000f // of F 0, 1
			case 1:
				code[i] = code[i]&0xe0f0003c | 2<<30 // near words
			case 2:
				code[i] = code[i]&0xff00001f | 3<<30
			}
		}
		in := []byte("some input")[:chance.Intn(11)]
		size := chance.Intn(20)
		m, again := New(code, size, in), New(code, size, in)
		m.Run(300)
		for range 300 {
			again.Step()
			if l := lookAt(again); l.n && l.z || l.pc < 0 || l.pc > maxPC {
				t.Fatalf("%08x: %+v", code, l)
			}
		}
		if lookAt(m) != lookAt(again) || !slices.Equal(memory(m), memory(again)) {
			t.Fatalf("%08x: %+v, %+v", code, lookAt(m), lookAt(again))
		}
		ended[m.Result().End]++
	}
	if len(ended) < 2 {
		t.Errorf("how they end: %v", ended)
	}
}
