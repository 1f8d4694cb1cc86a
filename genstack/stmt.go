package genstack

import "wafer/api"

// stmts makes statements.
func (g *generator) stmts(l []api.Stmt) {
	for _, s := range l {
		g.stmt(s)
	}
}

// stmt makes a statement. There is no operand ahead of it or behind it.
func (g *generator) stmt(s api.Stmt) {
	switch s.Op {
	case api.Assign:
		g.assign(s.X[0], s.X[1])
	case api.Do:
		g.call(s.X[0])
	case api.If:
		g.choose(s)
	case api.While:
		g.while(s)
	case api.Repeat:
		g.repeat(s)
	case api.For:
		g.loop(s)
	case api.Case:
		g.cases(s)
	case api.Inc, api.Dec, api.Incl, api.Excl:
		g.change(s)
	case api.New:
		g.create(s.X[0])
	case api.Assert:
		g.value(s.X[0])
		g.raiseUnless(api.TrapAssert)
	case api.Read:
		g.place(s.X[0])
		g.put(api.Getc, api.Store)
	case api.PutInt:
		g.value(s.X[0])
		g.enter(nil)
	case api.PutChar:
		g.value(s.X[0])
		g.put(api.Putc)
	case api.PutStr:
		g.text(s.X[0])
	case api.PutLn:
		g.push('\n')
		g.put(api.Putc)
	}
}

// assign makes an assignment.
func (g *generator) assign(to, from api.Expr) {
	g.place(to)
	switch {
	case from.T.Form == api.Str:
		for i := range len(from.S) {
			g.put(api.Dup)
			g.push(i)
			g.put(api.CAdd)
			g.push(int(from.S[i]))
			g.put(api.Store)
		}
		g.push(len(from.S))
		g.put(api.CAdd)
		g.push(0)
		g.put(api.Store)
	case to.T.Form == api.Array || to.T.Form == api.Record:
		g.later(from, func() { g.place(from) })
		g.with(api.Move, g.plan.Size(to.T))
	default:
		g.behind(from)
		g.put(api.Store)
	}
}

// choose makes an If.
func (g *generator) choose(s api.Stmt) {
	var ends []int
	for i, x := range s.X {
		g.value(x)
		next := g.jump(api.Zero)
		g.stmts(s.B[i])
		ends = append(ends, g.jump(api.Jump))
		g.land(next)
	}
	if len(s.B) > len(s.X) {
		g.stmts(s.B[len(s.X)])
	}
	for _, at := range ends {
		g.land(at)
	}
}

// while makes a While.
func (g *generator) while(s api.Stmt) {
	loop := len(g.code)
	for i, x := range s.X {
		g.value(x)
		next := g.jump(api.Zero)
		g.stmts(s.B[i])
		g.with(api.Jump, loop)
		g.land(next)
	}
}

// repeat makes a Repeat.
func (g *generator) repeat(s api.Stmt) {
	loop := len(g.code)
	g.stmts(s.B[0])
	g.value(s.X[0])
	g.with(api.Zero, loop)
}

// loop makes a For.
func (g *generator) loop(s api.Stmt) {
	g.place(s.X[0])
	g.behind(s.X[1])
	g.put(api.Store)
	g.value(s.X[2])
	end := g.keep()
	loop := len(g.code)
	g.value(s.X[0])
	g.get(end)
	if s.I[0] < 0 {
		g.put(api.Swap)
	}
	g.put(api.CLe)
	done := g.jump(api.Zero)
	g.stmts(s.B[0])
	g.place(s.X[0])
	g.put(api.Dup, api.Load)
	g.push(int(s.I[0]))
	g.put(api.CAdd, api.Store)
	g.with(api.Jump, loop)
	g.land(done)
	g.drop(1)
}

// cases makes a Case.
func (g *generator) cases(s api.Stmt) {
	g.value(s.X[0])
	v := g.keep()
	into := make([][]int, len(s.B))
	for i := 0; i < len(s.I); i += 3 {
		g.push(int(s.I[i]))
		g.get(v)
		g.put(api.CLe)
		below := g.jump(api.Zero)
		g.get(v)
		g.push(int(s.I[i+1]))
		g.put(api.CLe)
		above := g.jump(api.Zero)
		which := s.I[i+2]
		into[which] = append(into[which], g.jump(api.Jump))
		g.land(below)
		g.land(above)
	}
	g.drop(1)
	g.with(api.Raise, api.TrapCase)
	var ends []int
	for i, b := range s.B {
		for _, at := range into[i] {
			g.land(at)
		}
		g.stmts(b)
		ends = append(ends, g.jump(api.Jump))
	}
	for _, at := range ends {
		g.land(at)
	}
}

// change makes what changes a variable by a value.
func (g *generator) change(s api.Stmt) {
	g.place(s.X[0])
	p := g.keep()
	g.value(s.X[1])
	if s.Op == api.Incl || s.Op == api.Excl {
		g.ofOne(api.One, api.Int)
	}
	v := g.keep()
	g.get(p)
	g.put(api.Dup, api.Load)
	g.get(v)
	switch s.Op {
	case api.Inc:
		g.put(api.CAdd)
	case api.Dec:
		g.put(api.CSub)
	case api.Incl:
		g.put(api.COr)
	case api.Excl:
		g.put(api.CInv, api.CAnd)
	}
	g.put(api.Store)
	g.drop(2)
}

// create makes a New.
func (g *generator) create(e api.Expr) {
	first, _ := g.plan.Kin(e.T.Name)
	words := g.plan.Size(api.Type{Form: api.Record, Name: e.T.Name}) + 1
	g.place(e)
	g.push(g.heapEnd)
	g.push(g.rest)
	g.put(api.Load)
	g.push(words)
	g.put(api.CAdd, api.CLt)
	g.raiseIf(api.TrapHeap)
	g.push(g.rest)
	g.put(api.Load)
	g.push(first)
	g.put(api.Store)
	g.push(g.rest)
	g.put(api.Load)
	g.push(1)
	g.put(api.CAdd, api.Store)
	g.more(g.rest, words)
}

// text makes what writes a string, or an array's characters.
func (g *generator) text(e api.Expr) {
	if e.T.Form == api.Str {
		for i := range len(e.S) {
			g.push(int(e.S[i]))
			g.put(api.Putc)
		}
		return
	}
	g.place(e)
	p := g.keep()
	g.push(e.T.N)
	left := g.keep()
	loop := len(g.code)
	g.get(p)
	g.put(api.Load, api.Dup)
	nought := g.jump(api.Zero)
	g.put(api.Putc)
	g.moreOf(p, 1)
	g.moreOf(left, -1)
	g.get(left)
	end := g.jump(api.Zero)
	g.with(api.Jump, loop)
	g.land(nought)
	g.put(api.Drop)
	g.land(end)
	g.drop(2)
}

// moreOf adds to a word of the frame.
func (g *generator) moreOf(at, n int) {
	g.get(at)
	g.push(n)
	g.put(api.CAdd)
	g.set(at)
}
