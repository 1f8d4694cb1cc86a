package print

import (
	"strings"

	"wafer/api"
)

// body writes a procedure's or a module's statements.
func (p *printer) body(l []api.Stmt) {
	if len(l) == 0 {
		return
	}
	p.put("BEGIN\n")
	p.stmts(l, 1)
}

// stmts writes statements, each on lines of its own, so many steps to the right.
func (p *printer) stmts(l []api.Stmt, right int) {
	for i, s := range l {
		p.put(separator(i, "", ";\n"))
		p.indent(right)
		p.stmt(s, right)
	}
	if len(l) > 0 {
		p.put("\n")
	}
}

// indent goes so many steps to the right.
func (p *printer) indent(right int) { p.put(strings.Repeat("  ", right)) }

// stmt writes a statement.
func (p *printer) stmt(s api.Stmt, right int) {
	switch s.Op {
	case api.Assign:
		p.of(s, 0)
		p.put(" := ")
		p.of(s, 1)
	case api.Do:
		p.call(at(s.X, 0))
	case api.If:
		p.branches(s, "IF ", " THEN\n", right)
	case api.While:
		p.branches(s, "WHILE ", " DO\n", right)
	case api.Repeat:
		p.put("REPEAT\n")
		p.inner(s, 0, right)
		p.put("UNTIL ")
		p.of(s, 0)
	case api.For:
		p.loop(s, right)
	case api.Case:
		p.cases(s, right)
	case api.PutLn:
		p.put("Out.Ln")
	default:
		p.put(called(s.Op))
		p.list("(", s.X, ")")
	}
}

// of writes one of a statement's expressions.
func (p *printer) of(s api.Stmt, i int) { p.expr(at(s.X, i), relation) }

// inner writes one of a statement's lists of statements, up to where the statement goes on.
func (p *printer) inner(s api.Stmt, i, right int) {
	p.stmts(at(s.B, i), right+1)
	p.indent(right)
}

// call writes a procedure's call, without ( ) where there is nothing in them.
func (p *printer) call(e api.Expr) {
	if e.Op == api.Call && len(e.X) == 0 {
		p.name(e.S)
		return
	}
	p.expr(e, relation)
}

// branches writes what hangs on conditions, and what is done where none holds.
func (p *printer) branches(s api.Stmt, first, then string, right int) {
	for i := range s.X {
		p.put(separator(i, first, "ELSIF "))
		p.of(s, i)
		p.put(then)
		p.inner(s, i, right)
	}
	if len(s.B) > len(s.X) {
		p.put("ELSE\n")
		p.inner(s, len(s.X), right)
	}
	p.put("END")
}

// loop writes a FOR.
func (p *printer) loop(s api.Stmt, right int) {
	p.put("FOR ")
	p.of(s, 0)
	p.put(" := ")
	p.of(s, 1)
	p.put(" TO ")
	p.of(s, 2)
	if by := at(s.I, 0); by != 1 {
		p.put(" BY ", number(by))
	}
	p.put(" DO\n")
	p.inner(s, 0, right)
	p.put("END")
}

// cases writes a CASE.
func (p *printer) cases(s api.Stmt, right int) {
	p.put("CASE ")
	p.of(s, 0)
	p.put(" OF\n")
	p.indent(right)
	form := at(s.X, 0).T.Form
	for which := range s.B {
		p.put(separator(which, "", "| "), strings.Join(ranges(form, s.I, which), ", "), ":\n")
		p.inner(s, which, right)
	}
	p.put("END")
}

// ranges tells the ranges of a form that lead to one of a CASE's lists of statements.
func ranges(form int, numbers []int32, which int) []string {
	var l []string
	for ; len(numbers) >= 3; numbers = numbers[3:] {
		from, to := numbers[0], numbers[1]
		switch {
		case int(numbers[2]) != which:
		case from == to:
			l = append(l, label(form, from))
		default:
			l = append(l, label(form, from)+" .. "+label(form, to))
		}
	}
	return l
}

// label tells an end of a range.
func label(form int, i int32) string {
	if form == api.Char {
		return char(i)
	}
	return number(i)
}

// called tells a standard procedure's name.
func called(op int) string {
	switch op {
	case api.Inc:
		return "INC"
	case api.Dec:
		return "DEC"
	case api.Incl:
		return "INCL"
	case api.Excl:
		return "EXCL"
	case api.New:
		return "NEW"
	case api.Assert:
		return "ASSERT"
	case api.Read:
		return "In.Char"
	case api.PutInt:
		return "Out.Int"
	case api.PutChar:
		return "Out.Char"
	case api.PutStr:
		return "Out.String"
	}
	return "?"
}
