package genrisc

import "wafer/api"

// stmts makes statements.
func (g *generator) stmts(l []api.Stmt) {
	for _, s := range l {
		g.stmt(s)
	}
}

// stmt makes a statement. No register is in use ahead of it or behind it.
func (g *generator) stmt(s api.Stmt) {
	switch s.Op {
	case api.Assign:
		g.assign(s.X[0], s.X[1])
	case api.Do:
		g.call(s.X[0], 0)
	case api.If:
		g.choose(s)
	case api.While:
		g.while(s)
	case api.Repeat:
		g.repeat(s)
	case api.For:
		g.loop(s)
	case api.Case:
		g.cases(s)
	case api.Inc, api.Dec, api.Incl, api.Excl:
		g.change(s)
	case api.New:
		g.create(s.X[0])
	case api.Assert:
		g.value(s.X[0], 0)
		g.compareWith(0, 0)
		g.trap(ifEqual, api.TrapAssert)
	case api.Read:
		g.place(s.X[0], 0)
		g.number(1, 0)
		g.load(1, 1, textAt)
		g.store(1, 0, 0)
	case api.PutInt:
		g.value(s.X[0], 0)
		g.enter(nil)
	case api.PutChar:
		g.value(s.X[0], 0)
		g.write(0, 1)
	case api.PutStr:
		g.text(s.X[0])
	case api.PutLn:
		g.number(0, '\n')
		g.write(0, 1)
	}
}

// keep reckons a place, and keeps it in the frame: a value may need all registers.
func (g *generator) keep(e api.Expr) {
	g.place(e, 0)
	g.store(0, stack, placeAt*wordBytes)
}

// kept makes register r the place that is kept.
func (g *generator) kept(r int) { g.load(r, stack, placeAt*wordBytes) }

// assign makes an assignment.
func (g *generator) assign(to, from api.Expr) {
	switch {
	case from.T.Form == api.Str:
		g.place(to, 0)
		for i := range len(from.S) {
			g.number(1, int32(from.S[i]))
			g.store(1, 0, i*wordBytes)
		}
		g.number(1, 0)
		g.store(1, 0, len(from.S)*wordBytes)
	case to.T.Form == api.Array || to.T.Form == api.Record:
		g.keep(to)
		g.place(from, 0)
		g.kept(1)
		g.move(g.plan.Size(to.T))
	default:
		g.keep(to)
		g.value(from, 0)
		g.kept(1)
		g.store(0, 1, 0)
	}
}

// move brings words from where register 0 tells to where register 1 tells.
func (g *generator) move(words int) {
	if words == 0 {
		return
	}
	g.number(3, int32(words))
	loop := len(g.code)
	g.load(2, 0, 0)
	g.store(2, 1, 0)
	g.with(add, 0, 0, wordBytes)
	g.with(add, 1, 1, wordBytes)
	g.with(sub, 3, 3, 1)
	g.back(ifUnequal, loop)
}

// unless tells where it branches, if a condition doesn't hold.
func (g *generator) unless(e api.Expr) int {
	g.value(e, 0)
	g.compareWith(0, 0)
	return g.branch(ifEqual)
}

// choose makes an If.
func (g *generator) choose(s api.Stmt) {
	var ends []int
	for i, x := range s.X {
		next := g.unless(x)
		g.stmts(s.B[i])
		ends = append(ends, g.branch(always))
		g.land(next)
	}
	if len(s.B) > len(s.X) {
		g.stmts(s.B[len(s.X)])
	}
	for _, at := range ends {
		g.land(at)
	}
}

// while makes a While.
func (g *generator) while(s api.Stmt) {
	loop := len(g.code)
	for i, x := range s.X {
		next := g.unless(x)
		g.stmts(s.B[i])
		g.back(always, loop)
		g.land(next)
	}
}

// repeat makes a Repeat.
func (g *generator) repeat(s api.Stmt) {
	loop := len(g.code)
	g.stmts(s.B[0])
	g.value(s.X[0], 0)
	g.compareWith(0, 0)
	g.back(ifEqual, loop)
}

// loop makes a For.
func (g *generator) loop(s api.Stmt) {
	end := (g.proc.loopsAt + g.loops) * wordBytes
	g.value(s.X[1], 0)
	g.place(s.X[0], 1)
	g.store(0, 1, 0)
	g.value(s.X[2], 0)
	g.store(0, stack, end)
	loop := len(g.code)
	g.value(s.X[0], 0)
	g.load(1, stack, end)
	g.compare(0, 1)
	past := ifGreater
	if s.I[0] < 0 {
		past = ifLess
	}
	done := g.branch(past)
	g.loops++
	g.stmts(s.B[0])
	g.loops--
	g.place(s.X[0], 0)
	g.load(1, 0, 0)
	g.number(2, s.I[0])
	g.reckon(add, 1, 1, 2)
	g.store(1, 0, 0)
	g.back(always, loop)
	g.land(done)
}

// cases makes a Case.
func (g *generator) cases(s api.Stmt) {
	g.value(s.X[0], 0)
	into := make([][]int, len(s.B))
	for i := 0; i < len(s.I); i += 3 {
		g.number(1, s.I[i])
		g.compare(0, 1)
		below := g.branch(ifLess)
		g.number(1, s.I[i+1])
		g.compare(0, 1)
		which := s.I[i+2]
		into[which] = append(into[which], g.branch(ifAtMost))
		g.land(below)
	}
	g.trap(always, api.TrapCase)
	var ends []int
	for i, b := range s.B {
		for _, at := range into[i] {
			g.land(at)
		}
		g.stmts(b)
		ends = append(ends, g.branch(always))
	}
	for _, at := range ends {
		g.land(at)
	}
}

// change makes what changes a variable by a value.
func (g *generator) change(s api.Stmt) {
	g.keep(s.X[0])
	g.value(s.X[1], 0)
	if s.Op == api.Incl || s.Op == api.Excl {
		g.ofOne(api.One, api.Int, 0)
	}
	g.kept(1)
	g.load(2, 1, 0)
	g.reckon(operation(s.Op), 2, 2, 0)
	g.store(2, 1, 0)
}

// operation tells by what a variable is changed.
func operation(op int) int {
	switch op {
	case api.Inc:
		return add
	case api.Dec:
		return sub
	case api.Incl:
		return ior
	}
	return ann
}

// create makes a New.
func (g *generator) create(e api.Expr) {
	first, _ := g.plan.Kin(e.T.Name)
	words := g.plan.Size(api.Type{Form: api.Record, Name: e.T.Name})
	g.place(e, 0)
	g.number(2, int32(g.rest))
	g.load(1, 2, 0)
	g.number(3, int32((words+1)*wordBytes))
	g.reckon(add, 3, 1, 3)
	g.number(4, int32(g.heapEnd))
	g.compare(4, 3)
	g.trap(ifBelow, api.TrapHeap)
	g.store(3, 2, 0)
	g.number(3, int32(first))
	g.store(3, 1, 0)
	g.with(add, 1, 1, wordBytes)
	g.store(1, 0, 0)
}

// text makes what writes a string, or an array's characters.
func (g *generator) text(e api.Expr) {
	if e.T.Form == api.Str {
		for i := range len(e.S) {
			g.number(0, int32(e.S[i]))
			g.write(0, 1)
		}
		return
	}
	g.place(e, 0)
	g.number(1, int32(e.T.N))
	g.number(3, 0)
	loop := len(g.code)
	g.load(2, 0, 0)
	g.compareWith(2, 0)
	end := g.branch(ifEqual)
	g.store(2, 3, textAt)
	g.with(add, 0, 0, wordBytes)
	g.with(sub, 1, 1, 1)
	g.back(ifUnequal, loop)
	g.land(end)
}
