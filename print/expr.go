package print

import (
	"math"
	"strconv"
	"strings"

	"wafer/api"
	"wafer/types"
)

// Levels of expressions: what stands where a higher level is needed needs ( ).
const (
	relation = iota
	simple
	term
	factor
)

// setBits is how many elements a SET may have.
const setBits = 32

// expr writes e where something of a level is needed.
func (p *printer) expr(e api.Expr, level int) {
	own := levelOf(e)
	if own >= level {
		p.bare(e, own)
		return
	}
	p.put("(")
	p.bare(e, own)
	p.put(")")
}

// part writes one of e's expressions.
func (p *printer) part(e api.Expr, i, level int) { p.expr(at(e.X, i), level) }

// levelOf tells e's level.
func levelOf(e api.Expr) int {
	switch e.Op {
	case api.Eq, api.Ne, api.Lt, api.Le, api.Gt, api.Ge, api.In, api.Is, api.Span:
		return relation
	case api.Add, api.Sub, api.Or, api.Neg:
		return simple
	case api.Mul, api.Div, api.Mod, api.And:
		return term
	}
	// A number below 0 is written with a sign, but for the least one.
	if e.Op == api.Lit && e.T.Form == api.Int && e.I < 0 && e.I != math.MinInt32 {
		return simple
	}
	return factor
}

// bare writes e, which is of that level, without ( ).
func (p *printer) bare(e api.Expr, own int) {
	switch {
	case e.Op == api.Lit:
		p.lit(e)
	case e.Op == api.Neg:
		p.put("-")
		p.part(e, 0, term)
	case e.Op == api.Not:
		p.put("~")
		p.part(e, 0, factor)
	case e.Op == api.Is:
		p.part(e, 0, simple)
		p.put(" IS ")
		p.name(e.S)
	case own == factor:
		p.factor(e)
	case own == relation:
		// Relations don't follow one another without ( ).
		p.part(e, 0, simple)
		p.put(" ", sign(e), " ")
		p.part(e, 1, simple)
	default:
		p.part(e, 0, own)
		p.put(" ", sign(e), " ")
		p.part(e, 1, own+1)
	}
}

// sign tells the sign of an operator of two.
func sign(e api.Expr) string {
	switch e.Op {
	case api.Eq:
		return "="
	case api.Ne:
		return "#"
	case api.Lt:
		return "<"
	case api.Le:
		return "<="
	case api.Gt:
		return ">"
	case api.Ge:
		return ">="
	case api.In:
		return "IN"
	case api.Add:
		return "+"
	case api.Sub:
		return "-"
	case api.Or:
		return "OR"
	case api.Mul:
		return "*"
	case api.Div:
		if e.T.Form == api.Set {
			return "/"
		}
		return "DIV"
	case api.Mod:
		return "MOD"
	case api.And:
		return "&"
	}
	return ".."
}

// factor writes a designator, a call, a set.
func (p *printer) factor(e api.Expr) {
	switch e.Op {
	case api.Name:
		p.name(e.S)
	case api.Index:
		p.part(e, 0, factor)
		p.put("[")
		p.part(e, 1, relation)
		p.put("]")
	case api.Field:
		p.part(e, 0, factor)
		p.put(".", e.S)
	case api.Deref:
		p.part(e, 0, factor)
		p.put("^")
	case api.Guard:
		p.part(e, 0, factor)
		p.put("(")
		p.name(e.S)
		p.put(")")
	case api.Call:
		p.name(e.S)
		p.list("(", e.X, ")")
	case api.SetOf:
		p.list("{", e.X, "}")
	case api.One:
		p.part(e, 0, relation)
	default:
		p.put(standard(e.Op))
		p.list("(", e.X, ")")
	}
}

// standard tells a standard function's name.
func standard(op int) string {
	switch op {
	case api.Abs:
		return "ABS"
	case api.Odd:
		return "ODD"
	case api.Lsl:
		return "LSL"
	case api.Asr:
		return "ASR"
	case api.Ror:
		return "ROR"
	case api.Ord:
		return "ORD"
	case api.Chr:
		return "CHR"
	case api.Eof:
		return "In.Eof"
	}
	return "?"
}

// list writes expressions with commas between.
func (p *printer) list(begin string, l []api.Expr, end string) {
	p.put(begin)
	for i, e := range l {
		p.put(separator(i, "", ", "))
		p.expr(e, relation)
	}
	p.put(end)
}

// lit writes a constant.
func (p *printer) lit(e api.Expr) {
	switch e.T.Form {
	case api.Int:
		p.put(number(e.I))
	case api.Char:
		p.put(char(e.I))
	case api.Bool:
		p.put(truth(e.I))
	case api.Set:
		p.set(uint32(e.I))
	case api.Str:
		p.put(`"`, e.S, `"`)
	default:
		p.put(types.Text(e.T))
	}
}

// number tells an INTEGER; the least one has no decimal digits.
func number(i int32) string {
	if i == math.MinInt32 {
		return "80000000H"
	}
	return strconv.Itoa(int(i))
}

// char tells a CHAR; the nought is there since a letter doesn't begin a number.
func char(i int32) string {
	s := strings.ToUpper(strconv.FormatInt(int64(i), 16)) + "X"
	if s[0] >= 'A' {
		return "0" + s
	}
	return s
}

// truth tells a BOOLEAN.
func truth(i int32) string {
	if i == 0 {
		return "FALSE"
	}
	return "TRUE"
}

// set writes a SET by its elements and spans.
func (p *printer) set(bits uint32) {
	p.put("{")
	between := ""
	for i := 0; i < setBits; i++ {
		last := i
		for last < setBits && bits>>last&1 == 1 {
			last++
		}
		switch last - i {
		case 0:
			continue
		case 1:
			p.put(between, strconv.Itoa(i))
		default:
			p.put(between, strconv.Itoa(i), " .. ", strconv.Itoa(last-1))
		}
		between, i = ", ", last
	}
	p.put("}")
}
