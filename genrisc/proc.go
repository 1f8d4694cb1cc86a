package genrisc

import "wafer/api"

// Words of a frame: who called, registers that a call would change, a place that is kept; then parameters, variables, ends of loops.
const (
	savedAt   = 1
	placeAt   = savedAt + free
	headWords = placeAt + 1
)

// proc is a procedure: where its code begins, and its frame.
type proc struct {
	api.Proc
	at      int
	slots   map[string]slot
	locals  int // where its variables begin
	loopsAt int // where ends of loops begin
	words   int
}

// slot is where in a frame a parameter or variable stands, or its place.
type slot struct {
	at  int
	ref bool
}

// planned tells a procedure's frame.
func (g *generator) planned(q api.Proc) *proc {
	p := &proc{Proc: q, slots: map[string]slot{}, words: headWords}
	for _, a := range q.Params {
		p.slots[a.Name] = slot{at: p.words, ref: a.Ref}
		p.words++
	}
	p.locals = p.words
	for _, v := range q.Locals {
		p.slots[v.Name] = slot{at: p.words}
		p.words += g.plan.Size(v.T)
	}
	p.loopsAt = p.words
	p.words += loopsIn(q.Body)
	return p
}

// loopsIn tells how many loops that count are in one another.
func loopsIn(l []api.Stmt) int {
	most := 0
	for _, s := range l {
		inner := 0
		for _, b := range s.B {
			inner = max(inner, loopsIn(b))
		}
		if s.Op == api.For {
			inner++
		}
		most = max(most, inner)
	}
	return most
}

// procedure makes a procedure.
func (g *generator) procedure(p *proc) {
	g.proc, p.at = p, len(g.code)
	g.compareWith(depth, api.MaxDepth)
	g.trap(ifEqual, api.TrapStack)
	g.with(add, depth, depth, 1)
	g.store(link, stack, 0)
	g.clear(p.locals, p.loopsAt-p.locals)
	g.stmts(p.Body)
	for _, e := range p.Ret {
		g.value(e, 0)
	}
	g.load(link, stack, 0)
	g.with(sub, depth, depth, 1)
	g.leave()
}

// clear makes words of the frame noughts.
func (g *generator) clear(at, words int) {
	if words == 0 {
		return
	}
	g.with(add, 0, stack, at*wordBytes)
	g.number(1, int32(words))
	g.number(2, 0)
	loop := len(g.code)
	g.store(2, 0, 0)
	g.with(add, 0, 0, wordBytes)
	g.with(sub, 1, 1, 1)
	g.back(ifUnequal, loop)
}

// call calls a procedure; what it returns is in register r, and those ahead of it are as they were.
func (g *generator) call(e api.Expr, r int) {
	p := g.procs[e.S]
	for i, a := range p.Params {
		if a.Ref {
			g.place(e.X[i], r+i)
		} else {
			g.value(e.X[i], r+i)
		}
	}
	for i := range r {
		g.store(i, stack, (savedAt+i)*wordBytes)
	}
	frame := g.proc.words * wordBytes
	g.with(add, stack, stack, frame)
	for i := range p.Params {
		g.store(r+i, stack, (headWords+i)*wordBytes)
	}
	g.enter(&p.at)
	g.with(sub, stack, stack, frame)
	if r > 0 {
		g.copied(r, 0)
	}
	for i := range r {
		g.load(i, stack, (savedAt+i)*wordBytes)
	}
}

// decimals makes what writes the number in register 0, and tells where it begins.
func (g *generator) decimals() int {
	const least, base = 1 << 31, 1000000000 // what follows the least number's first digit, and its worth
	at := len(g.code)
	g.number(3, 0)
	g.number(1, base)
	g.compareWith(0, 0)
	plus := g.branch(ifPlus)
	g.number(2, '-')
	g.store(2, 3, textAt)
	g.reckon(sub, 0, 3, 0)
	g.compareWith(0, 0)
	plus2 := g.branch(ifPlus)
	// The least number has no opposite.
	g.number(2, '0'+least/base)
	g.store(2, 3, textAt)
	g.number(0, least%base)
	g.number(1, base/10)
	digits := g.branch(always)
	g.land(plus)
	g.land(plus2)
	strip := len(g.code)
	g.compare(0, 1)
	digits2 := g.branch(ifAtLeast)
	g.compareWith(1, 1)
	digits3 := g.branch(ifEqual)
	g.with(div, 1, 1, 10)
	g.back(always, strip)
	g.land(digits)
	g.land(digits2)
	g.land(digits3)
	loop := len(g.code)
	g.reckon(div, 2, 0, 1)
	g.put(api.Instr{U: true, Op: mov, A: 0}) // what is left
	g.with(add, 2, 2, '0')
	g.store(2, 3, textAt)
	g.compareWith(1, 1)
	done := g.branch(ifEqual)
	g.with(div, 1, 1, 10)
	g.back(always, loop)
	g.land(done)
	g.leave()
	return at
}
