// Package sample makes up modules to try the layers with: each number stands for other ones.
package sample

import (
	"strconv"

	"wafer/api"
	"wafer/front"
)

// Types of what is made up.
const (
	integer = iota
	char
	boolean
	set
	pointer  // to A.R
	extended // to A.S
	numbers  // ARRAY 4 OF INTEGER
	chars    // ARRAY 5 OF CHAR
	record   // A.R
	kinds    // how many
)

// Base is the source of a module that all others import.
const Base = `MODULE A; IMPORT In, Out;
CONST four* = 4; low* = 80000000H; word* = "word";
TYPE R* = RECORD x: INTEGER; c: CHAR; n: POINTER TO R; a: ARRAY 4 OF INTEGER END; P* = POINTER TO R;
  S* = RECORD (R) y: INTEGER; b: BOOLEAN; s: SET; t: ARRAY 5 OF CHAR; o: POINTER TO S END; Q* = POINTER TO S; N* = ARRAY 4 OF INTEGER; C* = ARRAY 5 OF CHAR;
VAR v*: INTEGER; p*: P; q*: Q; n*: N; r*: R; count: INTEGER;
PROCEDURE next*(): INTEGER; BEGIN INC(count) RETURN count END next;
PROCEDURE make*(k: INTEGER): P; VAR p1: P; q1: Q; BEGIN IF ODD(k) THEN NEW(q1); q1.y := k; p1 := q1 ELSE NEW(p1) END; p1.x := k RETURN p1 END make;
PROCEDURE put*(VAR a: N; VAR c: CHAR; VAR k: INTEGER); BEGIN c := CHR(ABS(k MOD 256)); a[k MOD 4] := k; INC(k) END put;
PROCEDURE get*(VAR c: CHAR); BEGIN IF In.Eof() THEN c := "." ELSE In.Char(c) END END get;
BEGIN v := 5; NEW(p); p.x := 3; NEW(q); q.x := 4; p.n := q; Out.Char("A")
END A.
`

// variable is one that statements may speak of.
type variable struct {
	name string
	t    int
	read bool // it may not be assigned
}

// function is a procedure that statements may call.
type function struct {
	name   string
	params []parameter
	result int // kinds: none
}

// parameter is a function's: of what type, and whether it has VAR.
type parameter struct {
	t   int
	ref bool
}

// maker makes a module up.
type maker struct {
	seed  uint64
	text  []byte
	vars  []variable
	funcs []function
	loops int
	room  int // bytes that may still be made
}

// Module tells the source of a module M that imports Base's: another one for each number.
func Module(number int) string {
	m := &maker{seed: uint64(number)*2654435761 + 12345, room: 6000}
	m.put("MODULE M; IMPORT A, In, Out;\nTYPE T = RECORD (A.S) z: INTEGER END; X = RECORD (A.R) w: INTEGER END;\nVAR ")
	m.others()
	m.declare("g", "; ")
	m.put("h: POINTER TO T; m: ARRAY 3 OF A.N;\n")
	for i := range 2 + m.pick(4) {
		m.procedure("f" + strconv.Itoa(i))
	}
	m.put("BEGIN ")
	m.begin()
	m.body(3, 6+m.pick(8))
	m.put("\nEND M.\n")
	return string(m.text)
}

// Trees tells the trees of sources, each beside those ahead. It gives up, where a source has a fault.
func Trees(srcs ...string) []api.Module {
	var l []api.Module
	for _, src := range srcs {
		m, diags := front.Compile(src, l...)
		if len(diags) > 0 {
			panic(diags[0].Err.Error() + " ahead of " + src[diags[0].Pos:])
		}
		l = append(l, m)
	}
	return l
}

// Input tells an input for a module.
func Input(number int) []byte {
	m := &maker{seed: uint64(number)}
	var b []byte
	for range m.pick(6) {
		b = append(b, byte(m.pick(256)))
	}
	return b
}

// pick tells one of the numbers below n.
func (m *maker) pick(n int) int {
	m.seed = m.seed*6364136223846793005 + 1442695040888963407
	return int((m.seed >> 33) % uint64(n))
}

// put writes texts.
func (m *maker) put(l ...string) {
	for _, s := range l {
		m.text = append(m.text, s...)
		m.room -= len(s)
	}
}

// typeName tells a type as it is written.
func typeName(t int) string {
	switch t {
	case integer:
		return "INTEGER"
	case char:
		return "CHAR"
	case boolean:
		return "BOOLEAN"
	case set:
		return "SET"
	case pointer:
		return "A.P"
	case extended:
		return "A.Q"
	case numbers:
		return "A.N"
	case chars:
		return "A.C"
	}
	return "A.R"
}

// others lets statements speak of the variables and procedures of Base, and of two that each module has.
func (m *maker) others() {
	m.vars = append(m.vars, variable{"A.v", integer, true}, variable{"A.p", pointer, true}, variable{"A.q", extended, true}, variable{"A.n", numbers, true}, variable{"A.r", record, true},
		variable{"h.z", integer, false}, variable{"h", extended, true}, variable{"h^.t", chars, false}, variable{"m[1]", numbers, false})
	m.funcs = append(m.funcs, function{"A.next", nil, integer}, function{"A.make", []parameter{{integer, false}}, pointer}, function{"A.put", []parameter{{numbers, true}, {char, true}, {integer, true}}, kinds}, function{"A.get", []parameter{{char, true}}, kinds})
}

// declare declares two variables of each type.
func (m *maker) declare(ahead, behind string) {
	for t := range kinds {
		a, b := ahead+strconv.Itoa(2*t), ahead+strconv.Itoa(2*t+1)
		m.put(a, ", ", b, ": ", typeName(t), behind)
		m.vars = append(m.vars, variable{a, t, false}, variable{b, t, false})
	}
}

// begin makes what lets most statements go on: pointers that aren't nil.
func (m *maker) begin() {
	m.put("NEW(h); NEW(g8); NEW(g10); g9 := h; g11 := h; h.n := g8; h.o := g10; g10.n := g10; g8.n := g9; ")
}

// procedure makes a procedure up.
func (m *maker) procedure(name string) {
	f := function{name: name, result: m.pick(kinds)}
	if f.result > extended {
		f.result = kinds
	}
	was := len(m.vars)
	m.put("PROCEDURE ", name, "(")
	for i := range m.pick(4) {
		p := parameter{t: m.pick(kinds), ref: m.pick(2) == 0}
		p.ref = p.ref || p.t > extended
		f.params = append(f.params, p)
		if i > 0 {
			m.put("; ")
		}
		a := name + "p" + strconv.Itoa(i)
		if p.ref {
			m.put("VAR ")
		}
		m.put(a, ": ", typeName(p.t))
		m.vars = append(m.vars, variable{a, p.t, false})
	}
	m.put(")")
	if f.result != kinds {
		m.put(": ", typeName(f.result))
	}
	m.funcs = append(m.funcs, f)
	m.put(";\nVAR ")
	m.declare(name+"l", "; ")
	m.put("\nBEGIN ")
	m.body(2, 1+m.pick(4))
	if f.result != kinds {
		m.put(" RETURN ", m.expr(f.result, 3))
	}
	m.put("\nEND ", name, ";\n")
	m.vars = m.vars[:was]
}
