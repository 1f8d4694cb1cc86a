package sample

import "strings"

// head is what is ahead of the statements of most of the programs that are given.
const head = `MODULE M; IMPORT In, Out;
CONST min = 80000000H; max = 7FFFFFFFH;
TYPE R = RECORD x: INTEGER; n: POINTER TO R END; S = RECORD (R) y: CHAR; a: ARRAY 3 OF INTEGER END; T = RECORD (S) END; U = RECORD (R) END; E = RECORD END; P = POINTER TO R;
  Z = RECORD z: ARRAY 1024 OF ARRAY 16 OF CHAR; e: E END;
VAR i, j, k: INTEGER; c: CHAR; b, o: BOOLEAN; s, s2: SET; a: ARRAY 4 OF INTEGER; m: ARRAY 2 OF ARRAY 3 OF INTEGER; t, t2: ARRAY 5 OF CHAR; r, r2: R; sr: S; p, q: P; ps: POINTER TO S; pt: POINTER TO T; e, e2: POINTER TO E; ea: ARRAY 3 OF E; one: ARRAY 1 OF INTEGER; z: POINTER TO Z;
PROCEDURE out(n: INTEGER); BEGIN Out.Int(n); Out.Char(" ") END out;
PROCEDURE say(n: INTEGER): INTEGER; BEGIN Out.Char("<"); Out.Int(n); Out.Char(">") RETURN n END say;
PROCEDURE yes(n: INTEGER): BOOLEAN; BEGIN Out.Int(n) RETURN n > 0 END yes;
PROCEDURE set(VAR v: INTEGER; n: INTEGER): INTEGER; BEGIN v := n RETURN n END set;
PROCEDURE move(VAR v: P; n: P): INTEGER; BEGIN v := n RETURN 0 END move;
PROCEDURE fib(n: INTEGER): INTEGER; VAR r1: INTEGER; BEGIN IF n < 2 THEN r1 := n ELSE r1 := fib(n - 1) + fib(n - 2) END RETURN r1 END fib;
PROCEDURE deep(n: INTEGER); BEGIN IF n > 1 THEN deep(n - 1) ELSE Out.Char("!") END END deep;
PROCEDURE sum(n: INTEGER): INTEGER; VAR big: ARRAY 1000 OF ARRAY 2 OF INTEGER; l: INTEGER; BEGIN big[n, 1] := n; IF n > 1 THEN l := 1 + (1 + (1 + (1 + (1 + (1 + (1 + (1 + (1 + (1 + sum(n - 1)))))))))) END RETURN l + big[n, 1] END sum;
PROCEDURE fresh; VAR l: INTEGER; la: ARRAY 2 OF CHAR; lp: POINTER TO R; lr: S; BEGIN out(l + ORD(la[1]) + lr.a[2]); ASSERT(lp = NIL); l := 5; la[1] := "x"; NEW(lp); lr.a[2] := 7 END fresh;
PROCEDURE swap(VAR x, y: INTEGER); VAR h: INTEGER; BEGIN h := x; x := y; y := h END swap;
PROCEDURE rec(VAR v: S; w: P; VAR l: SET): P; BEGIN v.a[1] := w.x; INCL(l, v.a[1]); w.x := 9; v.n := w RETURN v.n END rec;
PROCEDURE many(a1, a2, a3, a4, a5, a6, a7, a8, a9, a10, a11, a12: INTEGER): INTEGER; RETURN a1 - a2 * 2 + a3 * 3 - a4 * 4 + a5 * 5 - a6 * 6 + a7 * 7 - a8 * 8 + a9 * 9 - a10 * 10 + a11 * 11 - a12 * 12 END many;
PROCEDURE tell(a1, a2, a3, a4, a5, a6: INTEGER; VAR a7, a8, a9, a10, a11, a12: INTEGER); BEGIN out(many(a1, a2, a3, a4, a5, a6, a7, a8, a9, a10, a11, a12)); a12 := a1 END tell;
PROCEDURE wide(): INTEGER; VAR l: INTEGER; BEGIN INC(i); IF i < k THEN l := many(i, 2, 3, 4, 5, 6, 7, 8, 9, 10, 11, wide()) + m[i MOD 2, l] END RETURN l + i END wide;
PROCEDURE count(n: INTEGER); VAR x, y: INTEGER; BEGIN FOR x := 1 TO n DO FOR y := x TO n BY 2 DO IF n > 2 THEN count(n - 1) END; out(x * 10 + y) END END END count;
`

// Programs tells programs that meet what the chapters name: of each its modules' sources.
func Programs() [][]string {
	var l [][]string
	for _, stmts := range [][]string{values(), orders(), statements(), traps()} {
		for _, s := range stmts {
			l = append(l, []string{head + "BEGIN " + s + " END M."})
		}
	}
	return append(l, several()...)
}

// values are expressions, written.
func values() []string {
	var l []string
	for _, e := range strings.Split("1 + 1|i|i + max + 1|i - max - 2|(i + max) * 2|-(i + min)|ABS(i + min)|ABS(i - 5)|(i - 7) DIV 2|(i - 7) MOD 2|(i + 7) DIV 2|(i + min) DIV max|(i + min) MOD max|(i + min) DIV 1|LSL(i + 1, 33)|LSL(i + 1, -1)|ASR(i - 8, 1)|ASR(i + min, 31 + i)|ROR(i + 1, 1)|ROR(i + 6, 32 + i)|ORD(CHR(i + 255))|ORD(i = 0)|ORD({i, 2 .. i + 4})|ORD(-(s + {i}))|ORD({i .. 3} - {1})|ORD({i .. 3} * {1, 9})|ORD({i .. 3} / {1, 9})|ORD({i + 3 .. 2})|ORD({i + 31})|ORD({i .. 31})|ORD({i + 31 .. 0})|ORD({i + 31 .. 31})|ORD({0 .. i})|ORD({i .. 3, 5, i + 7 .. 9, 30 .. i + 31})|ORD(ODD(i + 3))|ORD(ODD(i - 3))|ORD(ODD(i + 2))|ORD(~(i = 1))|ORD(i # 0)|ORD((i < 1) & (i <= 0) & ~(i > 0) & (i >= 0))|ORD((i < 0) OR (i <= -1) OR (i > 0) OR (i >= 1))|ORD(c < \"a\")|ORD(c >= 0X)|ORD(i IN {i})|ORD(i + 1 IN {i})|ORD(i - 1 IN s - {1})|ORD(i + 32 IN -s)|ORD(i + 31 IN -s)|ORD(i + min IN -s)|ORD(s = {})|ORD(s # {i})|ORD(b = o)|ORD(p = NIL)|ORD(ps # p)|ORD(NIL = NIL)|ORD(p IS S)|ORD(pt IS T)|fib(10)|ORD(In.Eof())|ORD(c)|ORD(i + min < max)|ORD(max + i > min)|ORD(i + min <= min)|ORD(i + min >= min)|many(1, 2, 3, 4, 5, 6, 7, 8, 9, 10, 11, 12)|sum(100)|one[i]|1 + (2 - (3 * (4 + (5 - (6 * (7 + (8 - (9 * (10 + (i - fib(5)))))))))))|i + (1 + (i + (2 + (i + (3 + (i + (4 + (i + (5 + (i + say(6)))))))))))|i * 65535 + 65536|i - 65536 - 65537|i + 0FFFF0000H", "|") {
		l = append(l, "out("+e+")")
	}
	return l
}

// orders are statements by which one sees what is done first.
func orders() []string {
	return []string{
		"i := say(1) + say(2) * say(3)", "b := say(1) < say(2)", "m[say(1), say(2)] := say(3)", "s := {say(1), say(2) .. say(3), say(4)}", "i := LSL(say(1), say(2))", "b := say(1) IN {say(2)}", "INC(a[say(1)], say(2))", "i := many(say(1), 2, say(3), 4, say(5), 6, say(7), 8, say(9), 10, say(11), say(12)); out(i)",
		"b := yes(1) & yes(0) & yes(1)", "b := yes(0) OR yes(1) OR yes(1)", "b := yes(1) & yes(1)", "IF yes(0) THEN ELSIF yes(1) THEN ELSIF yes(2) THEN END",
		"i := 1; out(i + set(i, 5)); out(set(i, 7) + i)", "i := 1; INC(i, set(i, 5)); out(i)", "i := 1; DEC(i, set(i, 5)); out(i)", "a[2] := 7; i := 2; a[i] := set(i, 1); out(a[2]); out(a[1])", "NEW(p); NEW(q); p.x := 1; q.x := 2; p.x := 5 + move(p, q); out(p.x); out(q.x)", "NEW(p); NEW(q); q.x := 4; p.x := 3; r := p^; sr.a[move(p, q)] := p.x; out(sr.a[0])", "NEW(ps); NEW(pt); ps.a[0] := 1; pt.a[0] := 2; INC(ps.a[set(i, 0) + ps.a[0]], 5); out(ps.a[1])",
		"FOR i := 1 TO set(j, 3) DO out(i) END; out(i)", "i := 9; FOR i := 2 TO i + 1 DO out(i) END", "FOR i := 3 TO 1 BY -1 DO out(i) END; FOR i := 1 TO 5 BY 2 DO out(i); INC(i) END; FOR i := 1 TO 0 DO out(i) END", "j := 3; FOR i := 1 TO j DO j := 0; out(i) END", "FOR i := min TO min + 2 DO out(i) END; FOR i := max TO max - 10 BY -5 DO out(i) END; FOR i := 0 TO 2000000000 BY 65537 * 1000 DO out(i) END",
		"INCL(s, say(3)); i := 5; INCL(s, set(i, 4)); EXCL(s, say(3)); out(ORD(s))", "a[1] := 2; swap(a[0], a[a[1] - 1]); out(a[0]); out(a[1]); i := 1; j := 2; swap(i, j); out(i - j); swap(i, i); out(i)",
	}
}

// statements are statements that end.
func statements() []string {
	return []string{
		"", "Out.Int(min); Out.Ln; Out.Int(-7); Out.Int(0); Out.Ln; Out.Int(max); Out.Ln; Out.Int(1000000000); Out.Int(-1000000000); Out.Int(999999999); Out.Int(10); Out.Int(-10); Out.Int(9); Out.Int(-2147483647)", "Out.String(\"hi\"); Out.String(\"\"); Out.String(t)", "t := \"abcd\"; Out.String(t); t := \"x\"; Out.String(t); Out.Char(t[2]); t2 := t; Out.String(t2); t[1] := \"y\"; Out.String(t2); Out.String(t)", "t2 := \"abcd\"; FOR i := 0 TO 4 DO t[i] := CHR(i + 65) END; Out.String(t); t[4] := 0FFX; Out.String(t)", "Out.Char(0X); Out.Char(0FFX)",
		"In.Char(c); Out.Char(c); b := In.Eof(); In.Char(c); Out.Char(c); out(ORD(In.Eof())); c := \"z\"; In.Char(c); out(ORD(c)); In.Char(t[3]); out(ORD(c)); WHILE ~In.Eof() DO In.Char(c); out(ORD(c)) END",
		"fresh; fresh", "FOR i := 0 TO 3 DO a[i] := i * i END; tell(1, 2, 3, 4, 5, fib(6), a[0], a[1], a[2], a[fib(4)], j, k); out(k); NEW(ps); p := ps; tell(1, 2, 3, 4, 5, 6, i, i, i, i, i, p(S).x); out(p.x)", "k := 99; out(wide())", "deep(100)", "i := 3; r.x := 4; r2 := r; r.x := 5; out(r2.x); sr.a[2] := 6; sr.x := 1; a[3] := sr.a[2]; out(a[3])", "m[1, 2] := 7; m[0] := m[1]; m[1, 2] := 8; out(m[0, 2]); out(m[0, 1]); m[1] := m[1]; out(m[1, 2])", "ea[1] := ea[i + 2]; ea[0] := ea[0]; one[i] := 4; out(one[0])",
		"NEW(ps); ps.x := 3; ps.y := \"q\"; p := ps; out(p.x); Out.Char(p(S).y); out(ORD(p IS S)); out(ORD(p IS T)); out(ORD(p IS R)); p^ := r; out(ps.x); Out.Char(ps.y); p(S)^ := sr; out(p.x); sr.x := 8; ps^ := sr; out(p.x); out(ORD(p(S).y)); r := p(S)^.n^", "NEW(pt); ps := pt; p := ps; out(ORD(p IS T)); out(ORD(p IS U)); p(T).a[1] := 3; out(ps.a[1]); p := p(R); out(ORD(p(T) = ps))", "NEW(p); q := p; out(ORD(p = q)); NEW(q); out(ORD(p = q)); out(ORD(p # NIL)); p := NIL; out(ORD(p = NIL)); p := q; p.n := p; p.n.n.n.x := 4; out(q.x)", "NEW(e); NEW(e2); out(ORD(e = e2)); e^ := e2^; e := e2; out(ORD(e = e2))", "NEW(ps); NEW(p); p.x := 2; q := rec(sr, p, s); out(q.x); out(sr.a[1]); out(ORD(s)); q := rec(ps^, q, s2); out(ps.n.x); out(ORD(s2))",
		"s := {1, 5}; INCL(s, 31); EXCL(s, 5); EXCL(s, 4); out(ORD(s - {31})); out(ORD(31 IN s))", "i := max; INC(i); out(i); DEC(i); out(i); i := 5; INC(i, -7); out(i); DEC(i, min); out(i)", "i := 5; WHILE i > 3 DO out(i); DEC(i) ELSIF i > 0 DO out(-i); DEC(i, 2) END; REPEAT out(i); INC(i) UNTIL i > 1", "WHILE b DO END; IF b THEN out(1) END; IF b THEN ELSE out(2) END; IF ~b THEN out(3) ELSIF b THEN out(4) ELSE out(5) END", "FOR i := -1 TO 8 DO CASE i OF -1, 1 .. 2: out(1) | 0: out(2) | 5 .. 8, 3, 4: out(3) END END", "c := \"m\"; CASE c OF \"a\" .. \"l\": out(1) | \"m\": out(2) END; i := min; CASE i OF max: out(1) | min .. -65537: out(2) | 65536 .. max - 1: out(3) END", "count(3)", "FOR i := 1 TO 2 DO FOR j := 1 TO 2 DO FOR k := j TO 1 BY -1 DO count(i) END END END",
		"IF (i = 0) & ((j = 1) OR (k = 0)) & ~(b & o) THEN out(1) END; b := (i = 0) = (j = 0); o := b # (i < 1); out(ORD(b)); out(ORD(o))", "i := 7; i := -i; out(ABS(i)); a[i + 7] := -1; out(a[0]); a[-i DIV 3] := a[0] * a[0]; out(a[2])",
	}
}

// traps are statements that end ahead of their end.
func traps() []string {
	return []string{
		"out(1); a[i + 4] := say(2)", "a[i - 1] := say(2)", "m[i + 1, i + 3] := 1", "m[say(2), say(1)] := 1", "i := a[4 + i]", "i := a[min + i]", "i := set(a[i + 4], say(1))", "i := say(1) + a[say(9)] + say(2)", "i := one[i + 1]", "ea[i + 3] := ea[0]",
		"p.x := say(1)", "i := p.x", "r := p^", "p := p.n", "NEW(p); p.n.x := 1", "ps := p(S)", "p(S).y := \"a\"", "p(R).x := 1", "INC(p.x, say(1))", "NEW(p.n)", "In.Char(p(S).y)", "i := set(p.x, say(1))", "p^ := r", "e^ := e2^", "NEW(p); out(1); p(S).y := \"a\"", "NEW(ps); p := ps; ps := p(T)", "NEW(p); b := p(S) # NIL", "NEW(pt); p := pt; q := p(U)",
		"i := say(1) DIV say(0)", "i := 1 MOD i", "i := 1 DIV (i - 1)", "i := 1 MOD (i + min)", "ASSERT(b); out(1)", "c := CHR(i - 1)", "c := CHR(i + 256)", "s := {i - 1}", "s := {say(32), say(1)}", "s := {say(32) .. say(1)}", "s := {i .. 32}", "s := {i + 3 .. i - 1}", "INCL(s, i - 1)", "EXCL(s, say(32))", "CASE i OF 1: END", "CASE say(3) OF END", "CASE c OF 1X .. 0FFX: END",
		"deep(101)", "k := 101; out(wide())", "i := sum(101)", "i := fib(say(200))", "deep(1000)", "WHILE TRUE DO NEW(p); INC(i); out(i) END", "WHILE TRUE DO NEW(e); INC(i); out(i) END", "NEW(z)", "WHILE TRUE DO NEW(pt); out(pt.x); pt.x := 3; p := pt END",
	}
}

// several are programs of more than one module.
func several() [][]string {
	return [][]string{
		{"MODULE M; END M."},
		{"MODULE M; IMPORT Out; VAR a: ARRAY 1 OF ARRAY 1024 OF ARRAY 16 OF INTEGER; PROCEDURE p(i: INTEGER): INTEGER; BEGIN a[i, 1023, 15] := 7 RETURN a[i, i + 1023, i + 15] END p; BEGIN Out.Int(p(0)); Out.Int(p(1)) END M."},
		{"MODULE A; IMPORT Out; TYPE R* = RECORD x: INTEGER END; P* = POINTER TO R; VAR v*: INTEGER; p*: P; PROCEDURE q*(VAR n: INTEGER); BEGIN INC(n); INC(v) END q; BEGIN Out.Char(\"A\"); v := 3; NEW(p) END A.",
			"MODULE B; IMPORT A, Out; TYPE S = RECORD (A.R) y: INTEGER END; VAR v: INTEGER; s: POINTER TO S; p: A.P; BEGIN Out.Char(\"B\"); A.q(v); Out.Int(A.v); Out.Int(v); A.p.x := 9; NEW(s); s.y := 1; s.x := 2; p := s; Out.Int(p.x); Out.Int(A.p.x); ASSERT(p IS S); p := A.p; ASSERT(~(p IS S)); p(S).y := 1 END B."},
		{"MODULE A; IMPORT Out; VAR a: ARRAY 1024 OF ARRAY 8 OF INTEGER; PROCEDURE p*(i: INTEGER): INTEGER; BEGIN a[i, 7] := i RETURN a[i, 7] END p; END A.", "MODULE B; IMPORT A, Out; VAR b: ARRAY 1024 OF ARRAY 8 OF INTEGER; BEGIN b[1023, 7] := A.p(1023); Out.Int(b[1023, 7]) END B.", "MODULE C; IMPORT B, A, Out; TYPE Z = RECORD END; VAR z: ARRAY 9 OF Z; BEGIN z[1] := z[8]; Out.Int(A.p(3)) END C."},
	}
}
