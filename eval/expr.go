package eval

import (
	"wafer/api"
	"wafer/arith"
)

// maxChar is the greatest CHAR.
const maxChar = 255

// place tells where a designator is.
func (m *model) place(e api.Expr) place {
	switch e.Op {
	case api.Name:
		return m.variable(e.S)
	case api.Index:
		p := m.place(e.X[0])
		i := m.value(e.X[1])
		need(i >= 0 && int(i) < e.X[0].T.N, api.TrapIndex)
		p.at += int(i) * m.plan.Size(e.T)
		return p
	case api.Field:
		p := m.place(e.X[0])
		p.at += m.plan.Field(e.X[0].T.Name, e.S)
		return p
	case api.Deref:
		i := m.value(e.X[0])
		need(i != 0, api.TrapNil)
		return place{mem: m.objects[i].mem}
	}
	// No right tree asks for another one's place.
	return place{}
}

// variable tells where a variable is.
func (m *model) variable(name string) place {
	if m.frame != nil {
		if s, there := m.frame.proc.slots[name]; there {
			if s.ref {
				return m.frame.refs[s.at]
			}
			return place{mem: m.frame.mem, at: s.at}
		}
	}
	return m.globals[name]
}

// load tells the word that a place begins with.
func (p place) load() int32 { return p.mem[p.at] }

// store keeps a word where a place begins.
func (p place) store(v int32) { p.mem[p.at] = v }

// value tells the word that an expression is.
func (m *model) value(e api.Expr) int32 {
	switch e.Op {
	case api.Lit:
		return e.I
	case api.Name, api.Index, api.Field:
		return m.place(e).load()
	case api.Guard:
		return m.guard(e)
	case api.Is:
		i := m.value(e.X[0])
		return truth(i != 0 && m.plan.Extends(m.objects[i].record, e.S))
	case api.Call:
		return m.call(e)
	case api.And:
		return truth(m.holds(e.X[0]) && m.holds(e.X[1]))
	case api.Or:
		return truth(m.holds(e.X[0]) || m.holds(e.X[1]))
	case api.SetOf:
		all := int32(0)
		for _, x := range e.X {
			all |= m.value(x)
		}
		return all
	case api.Eof:
		return truth(len(m.in) == 0)
	}
	a := m.value(e.X[0])
	if len(e.X) == 1 {
		return ofOne(e.Op, e.X[0].T.Form, a)
	}
	return ofTwo(e.Op, e.X[0].T.Form, a, m.value(e.X[1]))
}

// holds tells whether a condition is so.
func (m *model) holds(e api.Expr) bool { return m.value(e) != 0 }

// truth tells a BOOLEAN as a word.
func truth(is bool) int32 {
	if is {
		return 1
	}
	return 0
}

// guard tells a pointer to a record of that type.
func (m *model) guard(e api.Expr) int32 {
	i := m.value(e.X[0])
	need(i != 0, api.TrapNil)
	need(m.plan.Extends(m.objects[i].record, e.S), api.TrapGuard)
	return i
}

// ofOne tells what an operator makes of one word.
func ofOne(op, form int, a int32) int32 {
	switch op {
	case api.Neg:
		if form == api.Set {
			return ^a
		}
		return arith.Sub(0, a)
	case api.Not:
		return truth(a == 0)
	case api.Abs:
		if a < 0 {
			return arith.Sub(0, a)
		}
	case api.Odd:
		return a & 1
	case api.Chr:
		need(a >= 0 && a <= maxChar, api.TrapRange)
	case api.One:
		return checked(api.TrapRange)(arith.Bit(a))
	}
	return a
}

// checked tells what takes a result, and ends the run by a trap, if there is none.
func checked(number int) func(int32, bool) int32 {
	return func(v int32, ok bool) int32 {
		need(ok, number)
		return v
	}
}

// ofTwo tells what an operator makes of two words.
func ofTwo(op, form int, a, b int32) int32 {
	if form == api.Set {
		switch op {
		case api.Add:
			return a | b
		case api.Sub:
			return a &^ b
		case api.Mul:
			return a & b
		case api.Div:
			return a ^ b
		}
	}
	switch op {
	case api.Add:
		return arith.Add(a, b)
	case api.Sub:
		return arith.Sub(a, b)
	case api.Mul:
		return arith.Mul(a, b)
	case api.Div:
		return checked(api.TrapDiv)(arith.Div(a, b))
	case api.Mod:
		return checked(api.TrapDiv)(arith.Mod(a, b))
	case api.Lsl:
		return arith.Lsl(a, b)
	case api.Asr:
		return arith.Asr(a, b)
	case api.Ror:
		return arith.Ror(a, b)
	case api.Span:
		return checked(api.TrapRange)(arith.Span(a, b))
	}
	return truth(compares(op, a, b))
}

// compares tells whether a relation holds.
func compares(op int, a, b int32) bool {
	switch op {
	case api.Eq:
		return a == b
	case api.Ne:
		return a != b
	case api.Lt:
		return a < b
	case api.Le:
		return a <= b
	case api.Gt:
		return a > b
	case api.Ge:
		return a >= b
	}
	return arith.Has(a, b)
}

// call does a procedure, and tells what it returns.
func (m *model) call(e api.Expr) int32 {
	p := m.procs[e.S]
	f := &frame{proc: p, mem: make([]int32, p.words)}
	for i, a := range p.Params {
		if a.Ref {
			f.refs = append(f.refs, m.place(e.X[i]))
		} else {
			f.mem[p.slots[a.Name].at] = m.value(e.X[i])
		}
	}
	need(m.calls < api.MaxDepth, api.TrapStack)
	m.burn()
	from := m.frame
	m.frame = f
	m.calls++
	m.stmts(p.Body)
	v := int32(0)
	if len(p.Ret) > 0 {
		v = m.value(p.Ret[0])
	}
	m.calls--
	m.frame = from
	return v
}
