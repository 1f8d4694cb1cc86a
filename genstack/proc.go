package genstack

import "wafer/api"

// proc is a procedure: where its code begins, and its frame: parameters, variables, what is kept for a while.
type proc struct {
	api.Proc
	at       int
	slots    map[string]slot
	ownWords int // of parameters and variables
	words    int
}

// slot is where in a frame a parameter or variable stands, or its place.
type slot struct {
	at  int
	ref bool
}

// planned tells a procedure's frame.
func (g *generator) planned(q api.Proc) *proc {
	p := &proc{Proc: q, slots: map[string]slot{}}
	for _, a := range q.Params {
		p.slots[a.Name] = slot{at: p.ownWords, ref: a.Ref}
		p.ownWords++
	}
	for _, v := range q.Locals {
		p.slots[v.Name] = slot{at: p.ownWords}
		p.ownWords += g.plan.Size(v.T)
	}
	p.words = p.ownWords
	return p
}

// procedure makes a procedure; its arguments are operands as it begins.
func (g *generator) procedure(p *proc) {
	g.proc, p.at = p, len(g.code)
	g.push(g.depth)
	g.put(api.Load)
	g.push(api.MaxDepth)
	g.put(api.CEq)
	g.raiseIf(api.TrapStack)
	g.more(g.depth, 1)
	start := g.with(api.Enter, 0)
	for i := len(p.Params) - 1; i >= 0; i-- {
		g.set(i)
	}
	g.stmts(p.Body)
	for _, e := range p.Ret {
		g.value(e)
	}
	g.more(g.depth, -1)
	g.put(api.Leave)
	g.code[start].K = int32(p.words)
}

// call calls a procedure; what it returns is an operand.
func (g *generator) call(e api.Expr) {
	p := g.procs[e.S]
	last := 0 // what is ahead of the last argument that calls is kept till then
	for i, x := range e.X {
		if calls(x) {
			last = i
		}
	}
	first := g.kept
	for i, a := range p.Params {
		if a.Ref {
			g.place(e.X[i])
		} else {
			g.value(e.X[i])
		}
		if last > 0 && i <= last {
			g.keep()
		}
		if last > 0 && i == last {
			for j := first; j < g.kept; j++ {
				g.get(g.proc.ownWords + j)
			}
		}
	}
	g.kept = first
	g.enter(p)
}

// enter calls a procedure, or what writes numbers.
func (g *generator) enter(p *proc) {
	g.calls = append(g.calls, call{at: g.with(api.CallTo, 0), to: p})
}

// calls tells whether a procedure is called in an expression.
func calls(e api.Expr) bool {
	if e.Op == api.Call {
		return true
	}
	for _, x := range e.X {
		if calls(x) {
			return true
		}
	}
	return false
}

// Words of what writes numbers: what is left of the number, and the worth of its next digit.
const (
	leftAt = iota
	worthAt
	writerWords
)

// decimals makes what writes a number, and tells where it begins.
func (g *generator) decimals() int {
	const least, base = 1 << 31, 1000000000 // what follows the least number's first digit, and its worth
	at := g.with(api.Enter, writerWords)
	g.set(leftAt)
	g.push(base)
	g.set(worthAt)
	g.get(leftAt)
	g.push(0)
	g.put(api.CLt)
	plus := g.jump(api.Zero)
	g.push('-')
	g.put(api.Putc)
	g.get(leftAt)
	g.put(api.CNeg)
	g.set(leftAt)
	g.get(leftAt)
	g.push(0)
	g.put(api.CLt)
	plus2 := g.jump(api.Zero)
	// The least number has no opposite.
	g.push('0' + least/base)
	g.put(api.Putc)
	g.push(least % base)
	g.set(leftAt)
	g.push(base / 10)
	g.set(worthAt)
	digits := g.jump(api.Jump)
	g.land(plus)
	g.land(plus2)
	g.strip()
	g.land(digits)
	g.digits()
	g.put(api.Leave)
	return at
}

// strip makes what goes by the digits that are noughts ahead, but for the last one.
func (g *generator) strip() {
	loop := len(g.code)
	g.get(leftAt)
	g.get(worthAt)
	g.put(api.CLt)
	found := g.jump(api.Zero)
	last := g.last()
	g.tenth()
	g.with(api.Jump, loop)
	g.land(found)
	g.land(last)
}

// digits makes what writes a digit, and all behind it.
func (g *generator) digits() {
	loop := len(g.code)
	g.get(leftAt)
	g.get(worthAt)
	g.put(api.CDiv)
	g.push('0')
	g.put(api.CAdd, api.Putc)
	g.get(leftAt)
	g.get(worthAt)
	g.put(api.CMod)
	g.set(leftAt)
	last := g.last()
	g.tenth()
	g.with(api.Jump, loop)
	g.land(last)
}

// last tells where it jumps, if the next digit is the last one.
func (g *generator) last() int {
	g.get(worthAt)
	g.push(1)
	g.put(api.CEq)
	g.not()
	return g.jump(api.Zero)
}

// tenth makes what goes on to the next digit.
func (g *generator) tenth() {
	g.get(worthAt)
	g.push(10)
	g.put(api.CDiv)
	g.set(worthAt)
}
