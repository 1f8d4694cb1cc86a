package eval

import (
	"strconv"

	"wafer/api"
	"wafer/arith"
)

// stmts does statements.
func (m *model) stmts(l []api.Stmt) {
	for _, s := range l {
		m.burn()
		m.stmt(s)
	}
}

// stmt does a statement.
func (m *model) stmt(s api.Stmt) {
	switch s.Op {
	case api.Assign:
		m.assign(s.X[0], s.X[1])
	case api.Do:
		m.call(s.X[0])
	case api.If:
		m.choose(s)
	case api.While:
		m.while(s)
	case api.Repeat:
		m.repeat(s)
	case api.For:
		m.loop(s)
	case api.Case:
		m.cases(s)
	case api.Inc, api.Dec, api.Incl, api.Excl:
		m.change(s)
	case api.New:
		m.create(m.place(s.X[0]), s.X[0].T.Name)
	case api.Assert:
		need(m.holds(s.X[0]), api.TrapAssert)
	case api.Read:
		m.read(m.place(s.X[0]))
	case api.PutInt:
		m.out = strconv.AppendInt(m.out, int64(m.value(s.X[0])), 10)
	case api.PutChar:
		m.out = append(m.out, byte(m.value(s.X[0])))
	case api.PutStr:
		m.text(s.X[0])
	case api.PutLn:
		m.out = append(m.out, '\n')
	}
}

// assign keeps a value in a place.
func (m *model) assign(to, from api.Expr) {
	p := m.place(to)
	switch {
	case from.T.Form == api.Str:
		for i := range len(from.S) {
			p.mem[p.at+i] = int32(from.S[i])
		}
		p.mem[p.at+len(from.S)] = 0
	case to.T.Form == api.Array || to.T.Form == api.Record:
		q := m.place(from)
		copy(p.mem[p.at:p.at+m.plan.Size(to.T)], q.mem[q.at:])
	default:
		v := m.value(from)
		p.store(v)
	}
}

// choose does what hangs on the first condition that holds, or the last part.
func (m *model) choose(s api.Stmt) {
	for i, x := range s.X {
		if m.holds(x) {
			m.stmts(s.B[i])
			return
		}
	}
	if len(s.B) > len(s.X) {
		m.stmts(s.B[len(s.X)])
	}
}

// while does what hangs on the first condition that holds, as long as one does.
func (m *model) while(s api.Stmt) {
	for again := true; again; {
		again = false
		for i, x := range s.X {
			m.burn()
			if m.holds(x) {
				m.stmts(s.B[i])
				again = true
				break
			}
		}
	}
}

// repeat does statements till a condition holds.
func (m *model) repeat(s api.Stmt) {
	for {
		m.stmts(s.B[0])
		m.burn()
		if m.holds(s.X[0]) {
			return
		}
	}
}

// loop counts.
func (m *model) loop(s api.Stmt) {
	p, by := m.place(s.X[0]), s.I[0]
	p.store(m.value(s.X[1]))
	end := m.value(s.X[2])
	for {
		m.burn()
		if at := p.load(); by > 0 && at > end || by < 0 && at < end {
			return
		}
		m.stmts(s.B[0])
		p.store(arith.Add(p.load(), by))
	}
}

// cases does the case that a value is in.
func (m *model) cases(s api.Stmt) {
	v := m.value(s.X[0])
	for i := 0; i < len(s.I); i += 3 {
		if v >= s.I[i] && v <= s.I[i+1] {
			m.stmts(s.B[s.I[i+2]])
			return
		}
	}
	trap(api.TrapCase)
}

// change changes what is in a place by a value.
func (m *model) change(s api.Stmt) {
	p := m.place(s.X[0])
	v := m.value(s.X[1])
	switch s.Op {
	case api.Inc:
		p.store(arith.Add(p.load(), v))
	case api.Dec:
		p.store(arith.Sub(p.load(), v))
	case api.Incl:
		p.store(p.load() | checked(api.TrapRange)(arith.Bit(v)))
	case api.Excl:
		p.store(p.load() &^ checked(api.TrapRange)(arith.Bit(v)))
	}
}

// create makes a record, and keeps the pointer to it.
func (m *model) create(p place, record string) {
	n := m.plan.Size(api.Type{Form: api.Record, Name: record})
	need(n+1 <= m.room, api.TrapHeap)
	m.room -= n + 1
	m.objects = append(m.objects, object{record: record, mem: make([]int32, n)})
	p.store(int32(len(m.objects) - 1))
}

// read keeps the next byte of the input.
func (m *model) read(p place) {
	c := byte(0)
	if len(m.in) > 0 {
		c, m.in = m.in[0], m.in[1:]
	}
	p.store(int32(c))
}

// text writes a string, or an array's characters up to the first 0X.
func (m *model) text(e api.Expr) {
	if e.T.Form == api.Str {
		m.out = append(m.out, e.S...)
		return
	}
	p := m.place(e)
	for _, c := range p.mem[p.at : p.at+e.T.N] {
		if c == 0 {
			return
		}
		m.out = append(m.out, byte(c))
	}
}
