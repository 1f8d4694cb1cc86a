package arith

import (
	"math"
	"math/big"
	"math/rand"
	"strings"
	"testing"
)

// word is 32 bits as plainly as can be: a text of 0 and 1, the highest one first.
type word string

// wordOf tells v's bits, one by one.
func wordOf(v int32) word {
	return wordOfBig(big.NewInt(int64(v)))
}

// wordOfBig tells the lowest 32 bits of a number of any size.
func wordOfBig(v *big.Int) word {
	// Bit tells those of a number below 0 as if noughts' contraries went on for ever.
	var s strings.Builder
	for i := 31; i >= 0; i-- {
		s.WriteByte('0' + byte(v.Bit(i)))
	}
	return word(s.String())
}

// number tells the word as a signed number: its highest bit counts negatively.
func (w word) number() int32 {
	v := int64(0)
	for i, c := range []byte(w) {
		worth := int64(1) << (31 - i)
		if i == 0 {
			worth = -worth
		}
		if c == '1' {
			v += worth
		}
	}
	return int32(v)
}

// edges are nought, the ends, the numbers about each power of two, and small ones.
func edges() []int32 {
	l := []int32{math.MinInt32, math.MinInt32 + 1, math.MaxInt32 - 1, math.MaxInt32, 0x55555555, -0x55555556, 1000003, -1000003}
	for i := range 31 {
		p := int32(1) << i
		l = append(l, p-1, p, p+1, -p-1, -p, -p+1)
	}
	for i := range int32(80) {
		l = append(l, i, -i)
	}
	chance := rand.New(rand.NewSource(1))
	for range 100 {
		l = append(l, int32(chance.Uint32())>>chance.Intn(32))
	}
	return l
}

// P3.1: the lowest 32 bits, against numbers of any size.
func TestAddSubMul(t *testing.T) {
	for _, x := range []struct {
		name string
		got  func(a, b int32) int32
		want func(z, a, b *big.Int) *big.Int
	}{
		{"Add", Add, (*big.Int).Add},
		{"Sub", Sub, (*big.Int).Sub},
		{"Mul", Mul, (*big.Int).Mul},
	} {
		for _, a := range edges() {
			for _, b := range edges() {
				want := wordOfBig(x.want(new(big.Int), big.NewInt(int64(a)), big.NewInt(int64(b)))).number()
				if got := x.got(a, b); got != want {
					t.Fatalf("%s(%d, %d): %d, want %d", x.name, a, b, got, want)
				}
			}
		}
	}
}

// P3.1: where the sums wrap, by hand.
func TestWraps(t *testing.T) {
	for i, x := range []struct{ got, want int32 }{
		{Add(2, 3), 5},
		{Add(math.MaxInt32, 1), math.MinInt32},
		{Add(math.MinInt32, math.MinInt32), 0},
		{Add(math.MinInt32, -1), math.MaxInt32},
		{Sub(2, 3), -1},
		{Sub(math.MinInt32, 1), math.MaxInt32},
		{Sub(0, math.MinInt32), math.MinInt32},
		{Sub(math.MaxInt32, -1), math.MinInt32},
		{Mul(-2, 3), -6},
		{Mul(math.MinInt32, -1), math.MinInt32},
		{Mul(math.MaxInt32, math.MaxInt32), 1},
		{Mul(65536, 65536), 0},
		{Mul(65536, 32768), math.MinInt32},
		{Mul(0x12345678, 16), 0x23456780},
	} {
		if x.got != x.want {
			t.Errorf("%d: %d, want %d", i, x.got, x.want)
		}
	}
}

// P3.1: the chapter's example, each sign, and the ends.
func TestDivMod(t *testing.T) {
	for _, x := range []struct{ a, b, div, mod int32 }{
		{-7, 2, -4, 1},
		{7, 2, 3, 1},
		{-8, 2, -4, 0},
		{8, 2, 4, 0},
		{0, 5, 0, 0},
		{-1, 5, -1, 4},
		{-5, 5, -1, 0},
		{-6, 5, -2, 4},
		{4, 5, 0, 4},
		{math.MinInt32, 1, math.MinInt32, 0},
		{math.MaxInt32, 1, math.MaxInt32, 0},
		{math.MinInt32, math.MaxInt32, -2, math.MaxInt32 - 1},
		{math.MinInt32 + 1, math.MaxInt32, -1, 0},
		{-1, math.MaxInt32, -1, math.MaxInt32 - 1},
		{math.MaxInt32, math.MaxInt32, 1, 0},
		{math.MaxInt32 - 1, math.MaxInt32, 0, math.MaxInt32 - 1},
	} {
		if v, ok := Div(x.a, x.b); v != x.div || !ok {
			t.Errorf("Div(%d, %d): %d, %v, want %d", x.a, x.b, v, ok, x.div)
		}
		if v, ok := Mod(x.a, x.b); v != x.mod || !ok {
			t.Errorf("Mod(%d, %d): %d, %v, want %d", x.a, x.b, v, ok, x.mod)
		}
	}
}

// P3.1: false (0), if b is below 1; else Div is the greatest that isn't above a, Mod the rest.
func TestDivModOfAll(t *testing.T) {
	for _, a := range edges() {
		for _, b := range edges() {
			div, ok := Div(a, b)
			mod, also := Mod(a, b)
			if b < 1 {
				if div != 0 || ok || mod != 0 || also {
					t.Fatalf("%d by %d: %d, %v, %d, %v", a, b, div, ok, mod, also)
				}
				continue
			}
			rest := int64(a) - int64(b)*int64(div)
			if !ok || !also || rest < 0 || rest >= int64(b) || rest != int64(mod) {
				t.Fatalf("%d by %d: %d, %v, %d, %v", a, b, div, ok, mod, also)
			}
		}
	}
}

// P3.1: each number of places, told by n's lowest five bits, whatever n's others are.
func TestMoves(t *testing.T) {
	for _, a := range edges() {
		w := wordOf(a)
		for k := range 32 {
			lsl := (w[k:] + word(strings.Repeat("0", k))).number()
			asr := (word(strings.Repeat(string(w[:1]), k)) + w[:32-k]).number()
			ror := (w[32-k:] + w[:32-k]).number()
			for _, above := range []int32{0, 32, 64, -32, -64, 1 << 30, math.MaxInt32 - 31, math.MinInt32} {
				n := above + int32(k)
				if v := Lsl(a, n); v != lsl {
					t.Fatalf("Lsl(%d, %d): %d, want %d", a, n, v, lsl)
				}
				if v := Asr(a, n); v != asr {
					t.Fatalf("Asr(%d, %d): %d, want %d", a, n, v, asr)
				}
				if v := Ror(a, n); v != ror {
					t.Fatalf("Ror(%d, %d): %d, want %d", a, n, v, ror)
				}
			}
		}
	}
}

// P3.1: what comes in, by hand.
func TestMovesByHand(t *testing.T) {
	for i, x := range []struct{ got, want int32 }{
		{Lsl(1, 31), math.MinInt32},
		{Lsl(3, 31), math.MinInt32},
		{Lsl(5, 32), 5},
		{Lsl(1, 33), 2},
		{Lsl(1, -1), math.MinInt32},
		{Asr(math.MinInt32, 31), -1},
		{Asr(math.MaxInt32, 31), 0},
		{Asr(-7, 1), -4},
		{Asr(-7, 32), -7},
		{Asr(-1, -1), -1},
		{Ror(1, 1), math.MinInt32},
		{Ror(1, 31), 2},
		{Ror(-2, 1), math.MaxInt32},
		{Ror(6, 0), 6},
		{Ror(6, 32), 6},
		{Ror(0x12345678, 8), 0x78123456},
		{Ror(0x12345678, -8), 0x34567812},
	} {
		if x.got != x.want {
			t.Errorf("%d: %d, want %d", i, x.got, x.want)
		}
	}
}

// outside are numbers that no set may have.
func outside() []int32 {
	return []int32{-1, -2, -31, -32, -33, -64, 32, 33, 63, 64, 256, 1 << 30, math.MaxInt32, math.MinInt32, math.MinInt32 + 1}
}

// setOf tells a set by its elements.
func setOf(l ...int) int32 {
	w := []byte(strings.Repeat("0", 32))
	for _, n := range l {
		w[31-n] = '1'
	}
	return word(w).number()
}

// P3.2: n's element is the bit of worth 2 to the n.
func TestBit(t *testing.T) {
	worth := int64(1)
	for n := range 32 {
		if s, ok := Bit(int32(n)); uint32(s) != uint32(worth) || s != setOf(n) || !ok {
			t.Errorf("Bit(%d): %d, %v, want %d", n, s, ok, uint32(worth))
		}
		worth *= 2
	}
	for _, n := range outside() {
		if s, ok := Bit(n); s != 0 || ok {
			t.Errorf("Bit(%d): %d, %v", n, s, ok)
		}
	}
}

// P3.2: each span; of a above b none, but true.
func TestSpan(t *testing.T) {
	for a := range 32 {
		for b := range 32 {
			var l []int
			for n := a; n <= b; n++ {
				l = append(l, n)
			}
			if s, ok := Span(int32(a), int32(b)); s != setOf(l...) || !ok {
				t.Errorf("Span(%d, %d): %d, %v, want %d", a, b, s, ok, setOf(l...))
			}
		}
	}
	if s, ok := Span(0, 31); s != -1 || !ok {
		t.Errorf("all: %d, %v", s, ok)
	}
}

// P3.2: false (0), if a or b isn't 0 to 31, a above b or not.
func TestSpanRefuses(t *testing.T) {
	for _, n := range outside() {
		for i := range int32(32) {
			for _, x := range [][2]int32{{n, i}, {i, n}, {n, n}} {
				if s, ok := Span(x[0], x[1]); s != 0 || ok {
					t.Errorf("Span(%d, %d): %d, %v", x[0], x[1], s, ok)
				}
			}
		}
		for _, other := range outside() {
			if s, ok := Span(n, other); s != 0 || ok {
				t.Errorf("Span(%d, %d): %d, %v", n, other, s, ok)
			}
		}
	}
}

// P3.2: each element of many sets; of other n no.
func TestHas(t *testing.T) {
	for _, s := range edges() {
		w := wordOf(s)
		for n := range 32 {
			if got, want := Has(int32(n), s), w[31-n] == '1'; got != want {
				t.Errorf("Has(%d, %s): %v", n, w, got)
			}
		}
		for _, n := range outside() {
			if Has(n, s) {
				t.Errorf("Has(%d, %s)", n, w)
			}
		}
	}
}

// P3.3: the laws by which both machines may reckon: each call is made of others.
func TestOneReckoning(t *testing.T) {
	for _, a := range edges() {
		for _, b := range edges() {
			if Sub(Add(a, b), b) != a || Add(a, b) != Add(b, a) || Mul(a, b) != Mul(b, a) || Sub(0, Sub(a, b)) != Sub(b, a) {
				t.Fatalf("sums of %d, %d", a, b)
			}
			if q, ok := Div(a, b); ok {
				if r, _ := Mod(a, b); Add(Mul(b, q), r) != a {
					t.Fatalf("%d by %d: %d, %d", a, b, q, r)
				}
			}
		}
		for n := range int32(31) {
			p, _ := Bit(n)
			q, ok := Div(a, p)
			if Lsl(a, n) != Mul(a, p) || Asr(a, n) != q || !ok {
				t.Fatalf("%d moved by %d: %d, %d", a, n, Lsl(a, n), Asr(a, n))
			}
			if Ror(Ror(a, n), Sub(0, n)) != a {
				t.Fatalf("%d round by %d: %d", a, n, Ror(a, n))
			}
		}
	}
}
