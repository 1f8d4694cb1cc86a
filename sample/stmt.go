package sample

import "strconv"

// body makes statements.
func (m *maker) body(depth, n int) {
	for i := range n {
		if i > 0 {
			m.put(";\n  ")
		}
		m.stmt(depth)
		if m.room < 0 {
			return
		}
	}
}

// stmt makes a statement.
func (m *maker) stmt(depth int) {
	if depth > 0 && m.pick(3) == 0 {
		m.structured(depth - 1)
		return
	}
	switch m.pick(12) {
	case 0, 1:
		m.put("Out.Int(", m.expr(integer, 4), "); Out.Char(\" \")")
	case 2:
		m.put("Out.Char(", m.expr(char, 3), ")")
	case 3:
		m.put([]string{"Out.Ln", "Out.String(\"text\")", "Out.String(" + m.variable(chars, false) + ")", "Out.String(A.word)"}[m.pick(4)])
	case 4:
		m.put([]string{"INC(", "DEC("}[m.pick(2)], m.designator(integer, 3), ", ", m.expr(integer, 3), ")")
	case 5:
		m.put([]string{"INCL(", "EXCL("}[m.pick(2)], m.designator(set, 3), ", (", m.expr(integer, 3), ") MOD 32)")
	case 6:
		m.call()
	case 7:
		m.line()
	default:
		t := m.pick(kinds)
		if t == pointer && m.pick(2) == 0 {
			m.put(m.designator(pointer, 2), " := ", m.expr(extended, 2))
			return
		}
		m.put(m.designator(t, 3), " := ", m.expr(t, 4))
	}
}

// line makes a statement of characters or pointers.
func (m *maker) line() {
	switch m.pick(5) {
	case 0:
		m.put("In.Char(", m.designator(char, 2), ")")
	case 1:
		m.put(m.designator(chars, 2), " := \"", []string{"", "a", "four"}[m.pick(3)], "\"")
	case 2:
		m.put("NEW(", m.designator(pointer, 2), ")")
	case 3:
		m.put("NEW(", m.designator(extended, 2), ")")
	case 4:
		m.put("ASSERT((", m.expr(boolean, 3), ") OR (", m.expr(integer, 2), " # 3))")
	}
}

// call makes a call of a procedure without a result.
func (m *maker) call() {
	var l []function
	for _, f := range m.funcs {
		if f.result == kinds {
			l = append(l, f)
		}
	}
	f := l[m.pick(len(l))]
	m.put(f.name, "(", m.arguments(f, 3), ")")
}

// structured makes a statement with others in it.
func (m *maker) structured(depth int) {
	inner := func() { m.body(depth, m.pick(3)) }
	switch m.pick(6) {
	case 0, 1:
		m.put("IF ", m.expr(boolean, 3), " THEN ")
		inner()
		if m.pick(2) == 0 {
			m.put(" ELSIF ", m.expr(boolean, 3), " THEN ")
			inner()
		}
		if m.pick(2) == 0 {
			m.put(" ELSE ")
			inner()
		}
		m.put(" END")
	case 2:
		m.counted(inner)
	case 3:
		i := m.variable(integer, true)
		m.put(i, " := ", strconv.Itoa(m.pick(8)), "; WHILE ", i, " > 2 DO ")
		inner()
		m.put("; DEC(", i, ") ELSIF (", m.expr(boolean, 2), ") & (", i, " > 0) DO ")
		inner()
		m.put("; ", i, " := ", i, " DIV 2 END")
	case 4:
		i := m.variable(integer, true)
		m.put(i, " := ", strconv.Itoa(m.pick(5)), "; REPEAT ")
		inner()
		m.put("; INC(", i, ") UNTIL (", i, " > 5) OR (", m.expr(boolean, 2), ")")
	case 5:
		m.cases(inner)
	}
}

// counted makes a loop that counts.
func (m *maker) counted(inner func()) {
	var l []string
	for _, v := range m.vars {
		if v.t == integer && v.name[0] == 'g' {
			l = append(l, v.name)
		}
	}
	i := l[m.pick(len(l))]
	m.put("FOR ", i, " := ", strconv.Itoa(m.pick(6)-2), " TO ")
	if m.pick(2) == 0 {
		m.put(strconv.Itoa(m.pick(6)))
	} else {
		m.put("(", m.expr(integer, 2), ") MOD 6")
	}
	m.put([]string{"", " BY -1", " BY 3", " BY 2"}[m.pick(4)], " DO ")
	inner()
	m.put(" END")
}

// cases makes a Case.
func (m *maker) cases(inner func()) {
	if m.pick(2) == 0 {
		m.put("CASE (", m.expr(integer, 3), ") MOD 8 OF 0: ")
		inner()
		m.put(" | 1 .. 3, 6: ")
		inner()
		m.put(" | 5, 4: ")
		inner()
		m.put([]string{" | -5 .. -1: END", " | 7: END", " | 7 .. 7FFFFFFFH: END"}[m.pick(3)])
		return
	}
	m.put("CASE CHR((", m.expr(integer, 3), ") MOD 256) OF 0X .. \"c\": ")
	inner()
	m.put(" | \"d\" .. ", []string{"\"z\"", "0FFX"}[m.pick(2)], ": ")
	inner()
	m.put(" END")
}
