package genrisc

import "wafer/api"

// Registers: R0 to R11 are for expressions.
const (
	free  = 12 // for a moment
	depth = 13 // how many calls are under way
	stack = 14 // where the frame begins
	link  = 15
)

// Operations.
const (
	mov = iota
	lsl
	asr
	ror
	and
	ann
	ior
	xor
	add
	sub
	mul
	div
)

// Conditions.
const (
	ifEqual   = 1
	ifBelow   = 2 // of numbers without signs
	ifLess    = 5
	ifAtMost  = 6
	always    = 7
	ifPlus    = 8
	ifUnequal = 9
	ifNot     = 10 // below, of numbers without signs
	ifAtLeast = 13
	ifGreater = 14
)

// Places of input and output.
const (
	textAt = -64
	endAt  = -60
)

// endRegister is what a branch to ends a run.
const endRegister = 12

// half is a half of a word.
const half = 1 << 16

// put tells where it puts an instruction.
func (g *generator) put(i api.Instr) int {
	g.code = append(g.code, i)
	return len(g.code) - 1
}

// reckon makes register a of b and c.
func (g *generator) reckon(op, a, b, c int) { g.put(api.Instr{Op: op, A: a, B: b, C: c}) }

// with makes register a of b and a number of -65536 to 65535.
func (g *generator) with(op, a, b, n int) {
	i := api.Instr{F: 1, Op: op, A: a, B: b, Imm: int32(n)}
	if n < 0 {
		i.V, i.Imm = true, int32(n+half)
	}
	g.put(i)
}

// number makes register a a number.
func (g *generator) number(a int, n int32) {
	if n >= -half && n < half {
		g.with(mov, a, 0, int(n))
		return
	}
	bits := uint32(n)
	g.put(api.Instr{F: 1, U: true, Op: mov, A: a, Imm: int32(bits >> 16)})
	if low := bits & (half - 1); low != 0 {
		g.with(ior, a, a, int(low))
	}
}

// further makes register a some bytes more, if there are some.
func (g *generator) further(a, bytes int) {
	if bytes > 0 {
		g.number(free, int32(bytes))
		g.reckon(add, a, a, free)
	}
}

// copied makes register a what b is.
func (g *generator) copied(a, b int) { g.reckon(mov, a, 0, b) }

// compare sets the flags by registers a and b.
func (g *generator) compare(a, b int) { g.reckon(sub, free, a, b) }

// compareWith sets the flags by register a and a number.
func (g *generator) compareWith(a, n int) { g.with(sub, free, a, n) }

// load makes register a the word at b and some bytes.
func (g *generator) load(a, b, bytes int) {
	g.put(api.Instr{F: 2, A: a, B: b, Imm: int32(bytes)})
}

// store keeps register a at b and some bytes.
func (g *generator) store(a, b, bytes int) {
	g.put(api.Instr{F: 2, U: true, A: a, B: b, Imm: int32(bytes)})
}

// write writes register a; another one is for a moment.
func (g *generator) write(a, moment int) {
	g.number(moment, 0)
	g.store(a, moment, textAt)
}

// trap ends the run on a condition (0: without a trap).
func (g *generator) trap(cond, number int) {
	g.put(api.Instr{F: 3, V: true, A: cond, C: endRegister, Imm: int32(number)})
}

// branch tells where it branches on a condition; land says where to.
func (g *generator) branch(cond int) int {
	return g.put(api.Instr{F: 3, U: true, A: cond})
}

// land lets a branch lead here.
func (g *generator) land(at int) { g.code[at].Imm = int32(len(g.code) - at - 1) }

// back branches on a condition to what is there already.
func (g *generator) back(cond, to int) {
	at := g.branch(cond)
	g.code[at].Imm = int32(to - at - 1)
}

// enter calls what is known by where it begins (nil: what writes numbers).
func (g *generator) enter(to *int) {
	at := g.put(api.Instr{F: 3, U: true, V: true, A: always})
	g.calls = append(g.calls, call{at: at, to: to})
}

// leave goes back to who called.
func (g *generator) leave() { g.put(api.Instr{F: 3, A: always, C: link}) }
