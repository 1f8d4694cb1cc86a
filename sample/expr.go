package sample

import "strconv"

// variable tells a variable of a type; one that may be assigned, if need be.
func (m *maker) variable(t int, assigned bool) string {
	var l []string
	for _, v := range m.vars {
		if v.t == t && !(assigned && v.read) {
			l = append(l, v.name)
		}
	}
	// What came last is nearest.
	if len(l) > 4 && m.pick(2) == 0 {
		l = l[len(l)-4:]
	}
	return l[m.pick(len(l))]
}

// designator tells what may be assigned.
func (m *maker) designator(t, depth int) string {
	if depth <= 0 || m.pick(3) == 0 {
		return m.variable(t, true)
	}
	part := ""
	switch t {
	case integer:
		switch m.pick(4) {
		case 0:
			return m.variable(numbers, true) + "[" + m.index(4, depth) + "]"
		case 1:
			return "m[" + m.index(3, depth) + ", " + m.index(4, depth) + "]"
		case 2:
			return m.pointed(depth) + ".a[" + m.index(4, depth) + "]"
		}
		part = ".x"
		if m.pick(3) == 0 {
			return m.variable(record, true) + part
		}
	case char:
		if m.pick(2) == 0 {
			return m.variable(chars, true) + "[" + m.index(5, depth) + "]"
		}
		part = ".c"
	case boolean:
		return m.variable(extended, false) + ".b"
	case set:
		return m.variable(extended, false) + "^.s"
	case pointer:
		part = ".n"
	case extended:
		return m.variable(extended, false) + ".o"
	case numbers:
		part = ".a"
	case chars:
		return m.variable(extended, false) + ".t"
	case record:
		return m.variable(pointer, false) + "^"
	}
	return m.pointed(depth) + part
}

// pointed tells a pointer's designator.
func (m *maker) pointed(depth int) string {
	switch m.pick(6) {
	case 0:
		return m.variable(extended, false)
	case 1:
		return m.variable(pointer, false) + ".n"
	case 2:
		if m.pick(4) == 0 {
			return m.variable(pointer, false) + "(A.S)"
		}
	}
	return m.variable(pointer, false)
}

// index tells an index that is mostly below n.
func (m *maker) index(n, depth int) string {
	switch {
	case m.pick(2) == 0:
		return strconv.Itoa(m.pick(n))
	case m.pick(30) == 0:
		return m.variable(integer, false) + " + " + m.expr(integer, 0)
	}
	return "(" + m.expr(integer, depth-1) + ") MOD " + strconv.Itoa(n)
}

// expr tells an expression of a type.
func (m *maker) expr(t, depth int) string {
	if depth <= 0 || m.room < 0 || m.pick(5) == 0 {
		if m.pick(3) == 0 {
			return m.literal(t)
		}
		return m.variable(t, false)
	}
	if m.pick(7) == 0 {
		if s, there := m.called(t, depth); there {
			return s
		}
	}
	if m.pick(4) == 0 {
		return m.designator(t, depth-1)
	}
	switch t {
	case integer:
		return m.number(depth - 1)
	case char:
		return "CHR((" + m.expr(integer, depth-1) + ") MOD 256)"
	case boolean:
		return m.condition(depth - 1)
	case set:
		return m.set(depth - 1)
	}
	return m.variable(t, false)
}

// literal tells a constant, or a variable, where there is none.
func (m *maker) literal(t int) string {
	switch t {
	case integer:
		switch m.pick(6) {
		case 0:
			return "A.low"
		case 1:
			return "7FFFFFFFH"
		case 2:
			return "(-" + strconv.Itoa(m.pick(70000)) + ")"
		}
		return strconv.Itoa(m.pick(12))
	case char:
		return "\"" + string(rune('a'+m.pick(26))) + "\""
	case boolean:
		return "TRUE"
	case set:
		return "{" + strconv.Itoa(m.pick(32)) + ", 3 .. " + strconv.Itoa(m.pick(32)) + "}"
	case pointer:
		if m.pick(3) == 0 {
			return "NIL"
		}
	}
	return m.variable(t, false)
}

// number tells an operator's INTEGER.
func (m *maker) number(depth int) string {
	a := func() string { return "(" + m.expr(integer, depth) + ")" }
	switch m.pick(13) {
	case 0, 1:
		return a() + " + " + a()
	case 2, 3:
		return a() + " - " + a()
	case 4:
		return a() + " * " + a()
	case 5:
		return a() + " DIV " + strconv.Itoa(1+m.pick(9))
	case 6:
		return a() + " MOD " + m.divisor(depth)
	case 7:
		return "-" + a()
	case 8:
		return "ABS(" + a() + ")"
	case 9:
		return "LSL(" + a() + ", " + a() + ")"
	case 10:
		return "ASR(" + a() + ", " + a() + ")"
	case 11:
		return "ROR(" + a() + ", " + a() + ")"
	}
	switch m.pick(3) {
	case 0:
		return "ORD(" + m.expr(set, depth) + ")"
	case 1:
		return "ORD(" + m.expr(boolean, depth) + ")"
	}
	return "ORD(" + m.expr(char, depth) + ")"
}

// divisor tells what is mostly above 0.
func (m *maker) divisor(depth int) string {
	if m.pick(8) == 0 {
		return "(" + m.variable(integer, false) + " + " + m.expr(integer, 0) + ")"
	}
	return "(ABS(" + m.expr(integer, depth) + ") MOD 100 + 1)"
}

// condition tells an operator's BOOLEAN.
func (m *maker) condition(depth int) string {
	relation := func(n int) string { return []string{" = ", " # ", " < ", " <= ", " > ", " >= "}[m.pick(n)] }
	a := func(t int) string { return "(" + m.expr(t, depth) + ")" }
	switch m.pick(9) {
	case 0:
		return a(boolean) + " & " + a(boolean)
	case 1:
		return a(boolean) + " OR " + a(boolean)
	case 2:
		return "~" + a(boolean)
	case 3:
		return a(integer) + relation(6) + a(integer)
	case 4:
		return m.variable(char, false) + relation(6) + a(char)
	case 5:
		t := []int{boolean, set, pointer, extended}[m.pick(4)]
		return a(t) + relation(2) + m.variable(t, false)
	case 6:
		return a(integer) + " IN " + a(set)
	case 7:
		return m.variable(pointer, false) + " IS " + []string{"A.R", "A.S", "T", "X"}[m.pick(4)]
	}
	return []string{"In.Eof()", "ODD(" + m.expr(integer, depth) + ")"}[m.pick(2)]
}

// set tells an operator's SET.
func (m *maker) set(depth int) string {
	a := func() string { return "(" + m.expr(set, depth) + ")" }
	element := func() string { return "(" + m.expr(integer, depth) + ") MOD 32" }
	switch m.pick(6) {
	case 0:
		return a() + " + " + a()
	case 1:
		return a() + " - " + a()
	case 2:
		return a() + " * " + a()
	case 3:
		return a() + " / " + a()
	case 4:
		return "-" + a()
	}
	return "{" + element() + ", " + element() + " .. " + element() + "}"
}

// called tells a call of a function with a result of a type, if there is one.
func (m *maker) called(t, depth int) (string, bool) {
	var l []function
	for _, f := range m.funcs {
		if f.result == t {
			l = append(l, f)
		}
	}
	if len(l) == 0 {
		return "", false
	}
	f := l[m.pick(len(l))]
	return f.name + "(" + m.arguments(f, depth) + ")", true
}

// arguments tells what a function is called with.
func (m *maker) arguments(f function, depth int) string {
	s := ""
	for i, p := range f.params {
		if i > 0 {
			s += ", "
		}
		if p.ref {
			s += m.designator(p.t, depth-1)
		} else {
			s += m.expr(p.t, depth-1)
		}
	}
	return s
}
