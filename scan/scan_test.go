package scan

import (
	"math"
	"math/rand"
	"slices"
	"strconv"
	"strings"
	"testing"

	"wafer/api"
)

// words are the keywords, as the chapter has them.
var words = strings.Fields("ARRAY BEGIN BY CASE CONST DIV DO ELSE ELSIF END FALSE FOR IF IMPORT IN IS MOD MODULE NIL OF OR POINTER PROCEDURE RECORD REPEAT RETURN THEN TO TRUE TYPE UNTIL VAR WHILE")

// signs are all signs.
var signs = strings.Fields("+ - * / & ~ = # < <= > >= := . .. , ; : ( ) [ ] { } ^ |")

// is checks that a source has just these symbols, ahead of its end.
func is(t *testing.T, src string, want ...api.Token) {
	t.Helper()
	want = append(want, api.Token{Kind: api.TokEnd, Pos: len(src), End: len(src)})
	l, diags := All(src)
	if !slices.Equal(l, want) || len(diags) != 0 {
		t.Errorf("All(%.60q): %v, %v, want %v", src, l, diags, want)
	}
}

// no checks that a source has a fault there.
func no(t *testing.T, src string, pos int, err api.Errno) {
	t.Helper()
	l, diags := All(src)
	if len(l) != 0 || !slices.Equal(diags, []api.Diag{{Pos: pos, Err: err}}) {
		t.Errorf("All(%.60q): %d symbols, %v, want %d, %v", src, len(l), diags, pos, err)
	}
}

// tok tells a symbol with a text.
func tok(kind, pos, end int, s string) api.Token {
	return api.Token{Kind: kind, Pos: pos, End: end, S: s}
}

// num tells a symbol with a number.
func num(kind, pos, end int, n int32) api.Token {
	return api.Token{Kind: kind, Pos: pos, End: end, N: n}
}

// P11.1: nothing but what may stand between symbols.
func TestBetween(t *testing.T) {
	for _, s := range []string{"", " ", "\t\n\r ", "(**)", "(* a *)", "(* (* *) *)", "(***)", "(*)*)", "(* \" 'x' \x01\xff *)", "(*(**)(**)*)", " (**) (**) ", "(****)"} {
		is(t, s)
		is(t, s+"a"+s, tok(api.TokIdent, len(s), len(s)+1, "a"))
	}
}

// P11.1: a comment that isn't ended, where the outermost begins.
func TestOpenComments(t *testing.T) {
	for _, x := range []struct {
		src string
		pos int
	}{{"(*", 0}, {" a (* b", 3}, {"(*)", 0}, {"(* (* *)", 0}, {"(**) (* (* *) (*", 5}, {"(*(*)*)", 0}, {"(* *", 0}, {"a(*(*(*", 1}} {
		no(t, x.src, x.pos, api.ErrLex)
	}
	is(t, "*)", tok(api.TokSign, 0, 1, "*"), tok(api.TokSign, 1, 2, ")"))
}

// P11.1, P11.2: bytes that begin no symbol.
func TestNoSymbol(t *testing.T) {
	for c := range 256 {
		s := string([]byte{byte(c)})
		if c != '"' && (strings.ContainsAny(s, "\t\n\r +-*/&~=#<>.,;:()[]{}^|") || strings.Contains("ABCDEFGHIJKLMNOPQRSTUVWXYZabcdefghijklmnopqrstuvwxyz0123456789", s)) {
			if _, diags := All(s); len(diags) != 0 {
				t.Errorf("%q: %v", s, diags)
			}
			continue
		}
		no(t, s, 0, api.ErrLex)
		no(t, "ab + "+s+" !", 5, api.ErrLex)
	}
}

// P11.2: identifiers, of at most MaxIdent.
func TestIdent(t *testing.T) {
	for _, s := range []string{"a", "Z", "a1", "A1b2", "begin", "Begin", "BEGINN", "BEGI", "E", "ABS", "In", "INTEGER", "x9999"} {
		is(t, s, tok(api.TokIdent, 0, len(s), s))
		is(t, "  "+s+"+", tok(api.TokIdent, 2, 2+len(s), s), tok(api.TokSign, 2+len(s), 3+len(s), "+"))
	}
	long := strings.Repeat("aB3", 11)
	is(t, long[:32], tok(api.TokIdent, 0, 32, long[:32]))
	no(t, long, 0, api.ErrLimit)
	no(t, "a;"+long+"(*", 2, api.ErrLimit)
	no(t, strings.Repeat("a", 20000), 0, api.ErrLimit)
	no(t, "a_b", 1, api.ErrLex)
	no(t, "aä", 1, api.ErrLex)
}

// P11.2: each keyword; the list is new memory.
func TestKeywords(t *testing.T) {
	if l := Keywords(); !slices.Equal(l, words) {
		t.Errorf("%v", l)
	}
	clear(Keywords())
	for _, s := range words {
		is(t, s, tok(api.TokKey, 0, len(s), s))
		is(t, s+"x", tok(api.TokIdent, 0, len(s)+1, s+"x"))
		is(t, strings.ToLower(s), tok(api.TokIdent, 0, len(s), strings.ToLower(s)))
	}
}

// P11.2: numbers that are.
func TestNumbers(t *testing.T) {
	zeros := strings.Repeat("0", 50)
	for _, x := range []struct {
		src  string
		kind int
		n    int32
	}{
		{"0", api.TokInt, 0}, {"7", api.TokInt, 7}, {"007", api.TokInt, 7}, {"2147483647", api.TokInt, math.MaxInt32}, {zeros + "2147483647", api.TokInt, math.MaxInt32},
		{"0H", api.TokInt, 0}, {"0FFH", api.TokInt, 255}, {"10H", api.TokInt, 16}, {"9H", api.TokInt, 9}, {"0FFFFFFFFH", api.TokInt, -1}, {"80000000H", api.TokInt, math.MinInt32}, {"7FFFFFFFH", api.TokInt, math.MaxInt32},
		{zeros + "0DEADBEEFH", api.TokInt, -559038737}, {"1BH", api.TokInt, 27}, {"1EH", api.TokInt, 30},
		{"41X", api.TokChar, 'A'}, {"0X", api.TokChar, 0}, {"0FFX", api.TokChar, 255}, {"9X", api.TokChar, 9}, {zeros + "7FX", api.TokChar, 127}, {"0ABX", api.TokChar, 171},
	} {
		is(t, x.src, num(x.kind, 0, len(x.src), x.n))
		is(t, " "+x.src+" ", num(x.kind, 1, 1+len(x.src), x.n))
	}
	is(t, "1..2", num(api.TokInt, 0, 1, 1), tok(api.TokSign, 1, 3, ".."), num(api.TokInt, 3, 4, 2))
	is(t, "5HX", num(api.TokInt, 0, 2, 5), tok(api.TokIdent, 2, 3, "X"))
	is(t, "5XH", num(api.TokChar, 0, 2, 5), tok(api.TokIdent, 2, 3, "H"))
	is(t, "5h", num(api.TokInt, 0, 1, 5), tok(api.TokIdent, 1, 2, "h"))
	is(t, "5a", num(api.TokInt, 0, 1, 5), tok(api.TokIdent, 1, 2, "a"))
	is(t, "12OR", num(api.TokInt, 0, 2, 12), tok(api.TokKey, 2, 4, "OR"))
}

// P11.2: numbers that aren't: too great, A to F without H, X.
func TestNoNumbers(t *testing.T) {
	for _, s := range []string{"2147483648", "4294967296", "4294967297", "99999999999999999999999999", "0100000000H", "100000000H", "0FFFFFFFFFFFFFFFFFFFFFFFFFH", "100X", "0FFFX", "10000000041X",
		"1A", "0F", "12E", "12DIV", "1END", "3DO", "1BEGIN", "18446744073709551616", "18446744073709551617H", "18446744073709551681X", "1F G"} {
		no(t, s, 0, api.ErrLex)
		no(t, "x := "+s+"!", 5, api.ErrLex)
	}
	is(t, "3OF", num(api.TokInt, 0, 1, 3), tok(api.TokKey, 1, 3, "OF"))
	is(t, "1.", num(api.TokInt, 0, 1, 1), tok(api.TokSign, 1, 2, "."))
}

// P11.2: strings, of at most MaxStr.
func TestStrings(t *testing.T) {
	for _, s := range []string{"", "a", "'", "(*", "*)", "\x7f\x80\xff", " ", "BEGIN", strings.Repeat("x", 120)} {
		q := "\"" + s + "\""
		is(t, q, tok(api.TokStr, 0, len(q), s))
		is(t, " "+q+"1", tok(api.TokStr, 1, 1+len(q), s), num(api.TokInt, 1+len(q), 2+len(q), 1))
	}
	is(t, `"a""b"`, tok(api.TokStr, 0, 3, "a"), tok(api.TokStr, 3, 6, "b"))
	for _, s := range []string{`"`, `"a`, "\"a\nb\"", "\"\t\"", "\"\x00\"", "\"\x1f\"", `"` + strings.Repeat("x", 200)} {
		no(t, s, 0, api.ErrLex)
		no(t, `"a" `+s, 4, api.ErrLex)
	}
	no(t, `"`+strings.Repeat("x", 121)+`"`, 0, api.ErrLimit)
	no(t, `+"`+strings.Repeat("x", 500)+`"!`, 1, api.ErrLimit)
}

// P11.2: signs, the longest of them.
func TestSigns(t *testing.T) {
	for _, s := range signs {
		is(t, s, tok(api.TokSign, 0, len(s), s))
	}
	for src, want := range map[string]string{"<==": "<= =", "<>": "< >", "::=": ": :=", "...": ".. .", "....": ".. ..", ":=:": ":= :", ">=>": ">= >", "=<": "= <", "=>": "= >", "**": "* *", "^^": "^ ^", "< =": "< =", ": =": ": ="} {
		l, diags := All(src)
		var got []string
		for _, x := range l {
			if x.Kind == api.TokSign {
				got = append(got, x.S)
			}
		}
		if strings.Join(got, " ") != want || len(diags) != 0 {
			t.Errorf("%q: %v, %v", src, got, diags)
		}
	}
}

// P11.1: MaxSource bytes, and one more, ahead of all else.
func TestMaxSource(t *testing.T) {
	is(t, strings.Repeat(" ", 20000))
	no(t, strings.Repeat(" ", 20001), 20000, api.ErrLimit)
	no(t, strings.Repeat("!", 20001), 20000, api.ErrLimit)
	no(t, "(*"+strings.Repeat(" ", 40000), 20000, api.ErrLimit)
	no(t, strings.Repeat("(*", 10000), 0, api.ErrLex)
	is(t, strings.Repeat("(*", 5000)+strings.Repeat("*)", 5000))
	l, diags := All(strings.Repeat("+", 20000))
	if len(l) != 20001 || len(diags) != 0 || l[20000] != (api.Token{Kind: api.TokEnd, Pos: 20000, End: 20000}) {
		t.Errorf("%d, %v", len(l), diags)
	}
}

// P11.3: lines and columns.
func TestLine(t *testing.T) {
	const src = "ab\n\ncd\r\ne"
	for _, x := range []struct{ pos, line, col int }{
		{-1, 1, 1}, {math.MinInt, 1, 1}, {0, 1, 1}, {1, 1, 2}, {2, 1, 3}, {3, 2, 1}, {4, 3, 1}, {5, 3, 2}, {6, 3, 3}, {7, 3, 4}, {8, 4, 1}, {9, 4, 2}, {10, 4, 2}, {math.MaxInt, 4, 2},
	} {
		if line, col := Line(src, x.pos); line != x.line || col != x.col {
			t.Errorf("%d: %d, %d", x.pos, line, col)
		}
	}
	for _, x := range []struct {
		src            string
		pos, line, col int
	}{{"", 0, 1, 1}, {"", 5, 1, 1}, {"\n", 0, 1, 1}, {"\n", 1, 2, 1}, {"ä\n", 2, 1, 3}} {
		if line, col := Line(x.src, x.pos); line != x.line || col != x.col {
			t.Errorf("%q, %d: %d, %d", x.src, x.pos, line, col)
		}
	}
}

// P11.4: symbols with anything between that says nothing are the same, but where they stand.
func TestSaysNothing(t *testing.T) {
	chance := rand.New(rand.NewSource(111))
	between := []string{" ", "\n", "\r\t ", "(**)", "(* x (* y *) \" *)", " (*;*) \n"}
	parts := append(slices.Concat(words, signs), "x", "aB9", "12", "0FFH", "41X", `"s t"`)
	for range 500 {
		var src []byte
		var want []api.Token
		for range chance.Intn(30) {
			src = append(src, between[chance.Intn(len(between))]...)
			part := parts[chance.Intn(len(parts))]
			l, _ := All(part)
			l[0].Pos, l[0].End = len(src), len(src)+len(part)
			want = append(want, l[0])
			src = append(src, part...)
		}
		src = append(src, between[chance.Intn(len(between))]...)
		is(t, string(src), want...)
	}
}

// P11.1: any bytes end, and tell either symbols in order or one place of src.
func TestAnyBytes(t *testing.T) {
	chance := rand.New(rand.NewSource(112))
	const some = "(*)\"\n aZ09AFHX.:=<>;\x00\xff"
	for range 100000 {
		b := make([]byte, chance.Intn(12))
		for i := range b {
			b[i] = some[chance.Intn(len(some))]
		}
		l, diags := All(string(b))
		if (len(l) == 0) == (len(diags) == 0) || len(diags) > 1 {
			t.Fatalf("%q: %v, %v", b, l, diags)
		}
		at := 0
		for _, x := range l {
			if x.Pos < at || x.End < x.Pos || x.End > len(b) {
				t.Fatalf("%q: %v", b, l)
			}
			at = x.End
		}
		if len(diags) == 1 && (diags[0].Pos < 0 || diags[0].Pos >= len(b)) {
			t.Fatalf("%q: %v", b, diags)
		}
	}
}

// P11.2: numbers of all kinds, told by another's reckoning.
func TestNumbersByChance(t *testing.T) {
	chance := rand.New(rand.NewSource(113))
	for range 20000 {
		v := chance.Uint64() >> chance.Intn(64)
		is(t, strconv.FormatInt(int64(v>>33), 10), num(api.TokInt, 0, len(strconv.FormatInt(int64(v>>33), 10)), int32(v>>33)))
		s := "0" + strings.ToUpper(strconv.FormatUint(v, 16)) + "H"
		if v > math.MaxUint32 {
			no(t, s, 0, api.ErrLex)
		} else {
			is(t, s, num(api.TokInt, 0, len(s), int32(v)))
		}
	}
}
