package genrisc

import "wafer/api"

// Bounds.
const (
	setBits  = 32
	allChars = 256
)

// place makes register r where a designator is.
func (g *generator) place(e api.Expr, r int) {
	switch e.Op {
	case api.Name:
		g.variable(e.S, r)
	case api.Index:
		g.index(e, r)
	case api.Field:
		g.place(e.X[0], r)
		g.further(r, g.plan.Field(e.X[0].T.Name, e.S)*wordBytes)
	case api.Deref:
		g.value(e.X[0], r)
		g.notNil(r)
	}
}

// variable makes register r where a variable is.
func (g *generator) variable(name string, r int) {
	s, there := g.proc.slots[name]
	switch {
	case there && s.ref:
		g.load(r, stack, s.at*wordBytes)
	case there:
		g.with(add, r, stack, s.at*wordBytes)
	default:
		g.number(r, int32(g.globals[name]*wordBytes))
	}
}

// index makes register r where an array's element is.
func (g *generator) index(e api.Expr, r int) {
	n := e.X[0].T.N
	g.place(e.X[0], r)
	g.value(e.X[1], r+1)
	g.compareWith(r+1, n)
	g.trap(ifNot, api.TrapIndex)
	if n > 1 {
		g.with(mul, r+1, r+1, g.plan.Size(e.T)*wordBytes)
		g.reckon(add, r, r, r+1)
	}
}

// notNil ends the run, if register r is nil.
func (g *generator) notNil(r int) {
	g.compareWith(r, 0)
	g.trap(ifEqual, api.TrapNil)
}

// kin sets the flags by whether what register r points to extends a record: below, if so.
func (g *generator) kin(record string, r int) {
	first, count := g.plan.Kin(record)
	g.load(free, r, -wordBytes)
	g.with(sub, free, free, first)
	g.with(sub, free, free, count)
}

// value makes register r the word that an expression is; those behind it may be changed.
func (g *generator) value(e api.Expr, r int) {
	switch e.Op {
	case api.Lit:
		g.number(r, e.I)
	case api.Name, api.Index, api.Field:
		g.place(e, r)
		g.load(r, r, 0)
	case api.Guard:
		g.value(e.X[0], r)
		g.notNil(r)
		g.kin(e.S, r)
		g.trap(ifNot, api.TrapGuard)
	case api.Is:
		g.is(e, r)
	case api.Call:
		g.call(e, r)
	case api.And, api.Or:
		g.either(e, r)
	case api.SetOf:
		g.setOf(e.X, r)
	case api.Eof:
		g.number(r, 0)
		g.load(r, r, endAt)
	default:
		for i, x := range e.X {
			g.value(x, r+i)
		}
		if len(e.X) == 1 {
			g.ofOne(e.Op, e.X[0].T.Form, r)
		} else {
			g.ofTwo(e.Op, e.X[0].T.Form, r)
		}
	}
}

// is makes register r whether a pointer's record extends another.
func (g *generator) is(e api.Expr, r int) {
	g.value(e.X[0], r)
	g.compareWith(r, 0)
	null := g.branch(ifEqual) // nil is FALSE already
	g.kin(e.S, r)
	g.truth(ifBelow, r)
	g.land(null)
}

// truth makes register r whether a condition holds.
func (g *generator) truth(cond, r int) {
	holds := g.branch(cond)
	g.number(r, 0)
	end := g.branch(always)
	g.land(holds)
	g.number(r, 1)
	g.land(end)
}

// either makes register r one of two conditions, and asks the second one only if the first doesn't tell.
func (g *generator) either(e api.Expr, r int) {
	tells := ifEqual
	if e.Op == api.Or {
		tells = ifUnequal
	}
	g.value(e.X[0], r)
	g.compareWith(r, 0)
	known := g.branch(tells)
	g.value(e.X[1], r)
	g.land(known)
}

// setOf makes register r a set of elements.
func (g *generator) setOf(l []api.Expr, r int) {
	if len(l) == 0 {
		g.number(r, 0)
	}
	for i, x := range l {
		if i == 0 {
			g.value(x, r)
		} else {
			g.value(x, r+1)
			g.reckon(ior, r, r, r+1)
		}
	}
}

// ofOne makes register r what an operator makes of it.
func (g *generator) ofOne(op, form, r int) {
	switch op {
	case api.Neg:
		if form == api.Set {
			g.with(xor, r, r, -1)
		} else {
			g.negate(r)
		}
	case api.Not:
		g.with(xor, r, r, 1)
	case api.Abs:
		g.compareWith(r, 0)
		plus := g.branch(ifPlus)
		g.negate(r)
		g.land(plus)
	case api.Odd:
		g.with(and, r, r, 1)
	case api.Chr:
		g.inRange(r, allChars)
	case api.One:
		g.inRange(r, setBits)
		g.number(free, 1)
		g.reckon(lsl, r, free, r)
	}
}

// negate makes register r 0 less itself.
func (g *generator) negate(r int) {
	g.number(free, 0)
	g.reckon(sub, r, free, r)
}

// inRange ends the run, unless register r is 0 to n - 1.
func (g *generator) inRange(r, n int) {
	g.compareWith(r, n)
	g.trap(ifNot, api.TrapRange)
}

// ofTwo makes register r what an operator makes of it and the next one.
func (g *generator) ofTwo(op, form, r int) {
	if form == api.Set && g.ofSets(op, r) {
		return
	}
	switch op {
	case api.Add:
		g.reckon(add, r, r, r+1)
	case api.Sub:
		g.reckon(sub, r, r, r+1)
	case api.Mul:
		g.reckon(mul, r, r, r+1)
	case api.Div, api.Mod:
		g.compareWith(r+1, 0)
		g.trap(ifAtMost, api.TrapDiv)
		g.reckon(div, r, r, r+1)
		if op == api.Mod {
			g.put(api.Instr{U: true, Op: mov, A: r}) // what is left
		}
	case api.Lsl:
		g.reckon(lsl, r, r, r+1)
	case api.Asr:
		g.reckon(asr, r, r, r+1)
	case api.Ror:
		g.reckon(ror, r, r, r+1)
	case api.In:
		g.in(r)
	case api.Span:
		g.span(r)
	default:
		g.compare(r, r+1)
		g.truth(condition(op), r)
	}
}

// ofSets makes register r what an operator makes of two sets, if it has another meaning of these.
func (g *generator) ofSets(op, r int) bool {
	switch op {
	case api.Add:
		g.reckon(ior, r, r, r+1)
	case api.Sub:
		g.reckon(ann, r, r, r+1)
	case api.Mul:
		g.reckon(and, r, r, r+1)
	case api.Div:
		g.reckon(xor, r, r, r+1)
	default:
		return false
	}
	return true
}

// condition tells what a relation asks of the flags.
func condition(op int) int {
	switch op {
	case api.Eq:
		return ifEqual
	case api.Ne:
		return ifUnequal
	case api.Lt:
		return ifLess
	case api.Le:
		return ifAtMost
	case api.Gt:
		return ifGreater
	}
	return ifAtLeast
}

// in makes register r whether it is an element of the next one.
func (g *generator) in(r int) {
	g.compareWith(r, setBits)
	may := g.branch(ifBelow)
	g.number(r, 0)
	end := g.branch(always)
	g.land(may)
	g.reckon(asr, r, r+1, r)
	g.with(and, r, r, 1)
	g.land(end)
}

// span makes register r the set of all from it to the next one: those up to the last one, without those ahead of the first.
func (g *generator) span(r int) {
	g.inRange(r, setBits)
	g.inRange(r+1, setBits)
	g.number(free, 2)
	g.reckon(lsl, r+1, free, r+1)
	g.with(sub, r+1, r+1, 1)
	g.number(free, 1)
	g.reckon(lsl, r, free, r)
	g.with(sub, r, r, 1)
	g.reckon(ann, r, r+1, r)
}
