package genstack

import "wafer/api"

// Bounds.
const (
	setBits  = 32
	allChars = 256
)

// place puts where a designator is.
func (g *generator) place(e api.Expr) {
	switch e.Op {
	case api.Name:
		g.variable(e.S)
	case api.Index:
		g.place(e.X[0])
		g.behind(e.X[1])
		g.inRange(e.X[0].T.N, api.TrapIndex)
		g.push(g.plan.Size(e.T))
		g.put(api.CMul, api.CAdd)
	case api.Field:
		g.place(e.X[0])
		g.push(g.plan.Field(e.X[0].T.Name, e.S))
		g.put(api.CAdd)
	case api.Deref:
		g.value(e.X[0])
		g.notNil()
	}
}

// variable puts where a variable is.
func (g *generator) variable(name string) {
	s, there := g.proc.slots[name]
	switch {
	case there && s.ref:
		g.get(s.at)
	case there:
		g.with(api.Local, s.at)
	default:
		g.push(g.globals[name])
	}
}

// behind puts an expression behind an operand, which waits in the frame, if something is called.
func (g *generator) behind(e api.Expr) { g.later(e, func() { g.value(e) }) }

// later puts what comes of an expression behind an operand, which waits in the frame, if something is called.
func (g *generator) later(e api.Expr, put func()) {
	if !calls(e) {
		put()
		return
	}
	at := g.keep()
	put()
	g.get(at)
	g.put(api.Swap)
	g.drop(1)
}

// notNil ends the run, if a pointer is nil.
func (g *generator) notNil() {
	g.put(api.Dup)
	g.push(0)
	g.put(api.CEq)
	g.raiseIf(api.TrapNil)
}

// kin asks whether what a pointer points to extends a record.
func (g *generator) kin(record string) {
	first, count := g.plan.Kin(record)
	g.push(1)
	g.put(api.CSub, api.Load)
	g.push(first)
	g.put(api.CSub)
	g.within(count)
}

// value puts the word that an expression is.
func (g *generator) value(e api.Expr) {
	switch e.Op {
	case api.Lit:
		g.push(int(e.I))
	case api.Name, api.Index, api.Field:
		g.place(e)
		g.put(api.Load)
	case api.Guard:
		g.value(e.X[0])
		g.notNil()
		g.put(api.Dup)
		g.kin(e.S)
		g.raiseUnless(api.TrapGuard)
	case api.Is:
		g.value(e.X[0])
		g.put(api.Dup)
		null := g.jump(api.Zero) // nil is FALSE already
		g.kin(e.S)
		g.land(null)
	case api.Call:
		g.call(e)
	case api.And, api.Or:
		g.either(e)
	case api.SetOf:
		g.push(0)
		for _, x := range e.X {
			g.behind(x)
			g.put(api.COr)
		}
	case api.Eof:
		g.put(api.Endc)
	default:
		g.value(e.X[0])
		if len(e.X) == 1 {
			g.ofOne(e.Op, e.X[0].T.Form)
		} else {
			g.behind(e.X[1])
			g.ofTwo(e.Op, e.X[0].T.Form)
		}
	}
}

// either puts one of two conditions, and asks the second one only if the first doesn't tell.
func (g *generator) either(e api.Expr) {
	g.value(e.X[0])
	g.put(api.Dup)
	if e.Op == api.Or {
		g.not()
	}
	known := g.jump(api.Zero)
	g.put(api.Drop)
	g.value(e.X[1])
	g.land(known)
}

// ofOne puts what an operator makes of an operand.
func (g *generator) ofOne(op, form int) {
	switch op {
	case api.Neg:
		if form == api.Set {
			g.put(api.CInv)
		} else {
			g.put(api.CNeg)
		}
	case api.Not:
		g.not()
	case api.Abs:
		g.put(api.Dup)
		g.push(0)
		g.put(api.CLt)
		plus := g.jump(api.Zero)
		g.put(api.CNeg)
		g.land(plus)
	case api.Odd:
		g.push(1)
		g.put(api.CAnd)
	case api.Chr:
		g.inRange(allChars, api.TrapRange)
	case api.One:
		g.inRange(setBits, api.TrapRange)
		g.moved(1)
	}
}

// moved puts a number, its bits moved to the left by an operand.
func (g *generator) moved(n int) {
	g.push(n)
	g.put(api.Swap, api.CLsl)
}

// ofTwo puts what an operator makes of two operands.
func (g *generator) ofTwo(op, form int) {
	if form == api.Set && g.ofSets(op) {
		return
	}
	switch op {
	case api.Add:
		g.put(api.CAdd)
	case api.Sub:
		g.put(api.CSub)
	case api.Mul:
		g.put(api.CMul)
	case api.Div:
		g.divisor()
		g.put(api.CDiv)
	case api.Mod:
		g.divisor()
		g.put(api.CMod)
	case api.Lsl:
		g.put(api.CLsl)
	case api.Asr:
		g.put(api.CAsr)
	case api.Ror:
		g.put(api.CRor)
	case api.In:
		g.in()
	case api.Span:
		g.span()
	default:
		g.compare(op)
	}
}

// ofSets puts what an operator makes of two sets, if it has another meaning of these.
func (g *generator) ofSets(op int) bool {
	switch op {
	case api.Add:
		g.put(api.COr)
	case api.Sub:
		g.put(api.CInv, api.CAnd)
	case api.Mul:
		g.put(api.CAnd)
	case api.Div:
		g.put(api.CXor)
	default:
		return false
	}
	return true
}

// divisor ends the run, if an operand is below 1.
func (g *generator) divisor() {
	g.put(api.Dup)
	g.push(1)
	g.put(api.CLt)
	g.raiseIf(api.TrapDiv)
}

// compare puts whether a relation holds.
func (g *generator) compare(op int) {
	switch op {
	case api.Eq:
		g.put(api.CEq)
	case api.Ne:
		g.put(api.CEq)
		g.not()
	case api.Lt:
		g.put(api.CLt)
	case api.Le:
		g.put(api.CLe)
	case api.Gt:
		g.put(api.Swap, api.CLt)
	case api.Ge:
		g.put(api.Swap, api.CLe)
	}
}

// in puts whether a number is an element of a set.
func (g *generator) in() {
	g.put(api.Swap, api.Dup)
	g.within(setBits)
	never := g.jump(api.Zero)
	g.put(api.CAsr)
	g.push(1)
	g.put(api.CAnd)
	end := g.jump(api.Jump)
	g.land(never)
	g.put(api.Drop, api.Drop)
	g.push(0)
	g.land(end)
}

// span puts the set of all from one number to another: those up to the last one, without those ahead of the first.
func (g *generator) span() {
	g.inRange(setBits, api.TrapRange)
	g.put(api.Swap)
	g.inRange(setBits, api.TrapRange)
	g.moved(1)
	g.push(1)
	g.put(api.CSub, api.CInv, api.Swap)
	g.moved(2)
	g.push(1)
	g.put(api.CSub, api.CAnd)
}
