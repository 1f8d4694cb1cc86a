package bits

import (
	"bytes"
	"math"
	"math/rand"
	"strconv"
	"testing"
)

// row is bits in a row as plainly as can be: a text of 0 and 1.
type row string

// put lays v's lowest n bits behind, one by one.
func (r row) put(v uint64, n int) row {
	s := strconv.FormatUint(v, 2)
	for len(s) < 64 {
		s = "0" + s
	}
	return r + row(s[64-n:])
}

// bytes tells the row, eight a byte, filled up with noughts.
func (r row) bytes() []byte {
	for len(r)%8 != 0 {
		r += "0"
	}
	var b []byte
	for i := 0; i < len(r); i += 8 {
		x, err := strconv.ParseUint(string(r[i:i+8]), 2, 8)
		if err != nil {
			panic(err)
		}
		b = append(b, byte(x))
	}
	return b
}

// number tells the n bits from place at on.
func (r row) number(at, n int) uint64 {
	if n == 0 {
		return 0
	}
	x, err := strconv.ParseUint(string(r[at:at+n]), 2, 64)
	if err != nil {
		panic(err)
	}
	return x
}

// wrongSizes are numbers of bits that no call takes.
var wrongSizes = []int{-1, -8, -64, 65, 66, 128, 256, 1 << 20, math.MaxInt, math.MinInt}

// P1.1: the chapter's example, and the highest bit first.
func TestPutHighestFirst(t *testing.T) {
	for _, x := range []struct {
		v    uint64
		n    int
		want []byte
	}{
		{5, 3, []byte{0xa0}},
		{5, 0, nil},
		{1, 1, []byte{0x80}},
		{0, 1, []byte{0}},
		{math.MaxUint64, 1, []byte{0x80}},
		{math.MaxUint64 - 1, 1, []byte{0}},
		{0xabc, 8, []byte{0xbc}},
		{0xabc, 9, []byte{0x5e, 0}},
		{0xabc, 12, []byte{0xab, 0xc0}},
		{1, 63, []byte{0, 0, 0, 0, 0, 0, 0, 2}},
		{1 << 63, 63, []byte{0, 0, 0, 0, 0, 0, 0, 0}},
		{0x0123456789abcdef, 64, []byte{1, 0x23, 0x45, 0x67, 0x89, 0xab, 0xcd, 0xef}},
		{math.MaxUint64, 64, []byte{255, 255, 255, 255, 255, 255, 255, 255}},
	} {
		w := NewWriter()
		if !w.Put(x.v, x.n) || w.Len() != x.n || !bytes.Equal(w.Bytes(), x.want) {
			t.Errorf("Put(%x, %d): %d bits, %x", x.v, x.n, w.Len(), w.Bytes())
		}
	}
}

// P1.1: each size behind each beginning of a byte, against the plain row.
func TestPutBehind(t *testing.T) {
	const v = 0xdeadbeefcafef00d
	for ahead := range 17 {
		for n := range 65 {
			w, want := NewWriter(), row("").put(0x15a5a, ahead).put(v, n).put(1, 1)
			if !w.Put(0x15a5a, ahead) || !w.Put(v, n) || !w.Put(1, 1) {
				t.Fatalf("%d, %d: refused", ahead, n)
			}
			if w.Len() != len(want) || !bytes.Equal(w.Bytes(), want.bytes()) {
				t.Errorf("%d, %d: %d bits, %x, want %x", ahead, n, w.Len(), w.Bytes(), want.bytes())
			}
		}
	}
}

// P1.1: of another n false, and nothing is put.
func TestPutRefuses(t *testing.T) {
	for _, n := range wrongSizes {
		w := NewWriter()
		if w.Put(math.MaxUint64, n) || w.Len() != 0 || len(w.Bytes()) != 0 {
			t.Errorf("Put of %d bits: %d, %x", n, w.Len(), w.Bytes())
		}
		w.Put(5, 3)
		if w.Put(math.MaxUint64, n) || w.Len() != 3 || !bytes.Equal(w.Bytes(), []byte{0xa0}) {
			t.Errorf("Put of %d bits behind others: %d, %x", n, w.Len(), w.Bytes())
		}
		if !w.Put(1, 2) || w.Len() != 5 || !bytes.Equal(w.Bytes(), []byte{0xa8}) {
			t.Errorf("Put behind a refused %d: %d, %x", n, w.Len(), w.Bytes())
		}
	}
}

// P1.1: of a new writer there is nothing, and no writer tells of another.
func TestNewWriter(t *testing.T) {
	a, b := NewWriter(), NewWriter()
	a.Put(1, 1)
	if b.Len() != 0 || len(b.Bytes()) != 0 {
		t.Errorf("new: %d bits, %x", b.Len(), b.Bytes())
	}
}

// P1.1: what Bytes tells is new memory, its spare room too.
func TestBytesNewMemory(t *testing.T) {
	w := NewWriter()
	w.Put(0x1234, 13)
	want := append([]byte(nil), w.Bytes()...)
	for _, give := range [][]byte{w.Bytes(), w.Bytes()} {
		give = give[:cap(give)]
		for i := range give {
			give[i] = 255
		}
		if !bytes.Equal(w.Bytes(), want) {
			t.Fatalf("changed from outside: %x", w.Bytes())
		}
	}
	old := w.Bytes()
	w.Put(7, 3)
	if !bytes.Equal(old, want) {
		t.Errorf("Put changes what was told: %x", old)
	}
	if !bytes.Equal(w.Bytes(), []byte{0x91, 0xa7}) {
		t.Errorf("behind: %x", w.Bytes())
	}
}

// P1.2: each size behind each beginning of a byte, against the plain row.
func TestGet(t *testing.T) {
	give := []byte{0xde, 0xad, 0xbe, 0xef, 0xca, 0xfe, 0xf0, 0x0d, 0x81, 0x7e, 0x55}
	var all row
	for _, c := range give {
		all = all.put(uint64(c), 8)
	}
	for ahead := range 17 {
		for n := range 65 {
			r := NewReader(give)
			r.Get(ahead)
			v, ok := r.Get(n)
			if !ok || v != all.number(ahead, n) || r.Left() != len(all)-ahead-n {
				t.Errorf("%d, %d: %x, %v, %d left", ahead, n, v, ok, r.Left())
			}
		}
	}
}

// P1.2: 0, false, and nothing is taken, of another n, or if fewer are left.
func TestGetRefuses(t *testing.T) {
	for _, n := range append([]int{30, 64}, wrongSizes...) {
		r := NewReader([]byte{0xa5, 0xff, 0x0f, 0xf0})
		r.Get(3)
		if v, ok := r.Get(n); v != 0 || ok || r.Left() != 29 {
			t.Errorf("Get(%d): %x, %v, %d left", n, v, ok, r.Left())
		}
		if v, ok := r.Get(29); v != 0x05ff0ff0 || !ok || r.Left() != 0 {
			t.Errorf("behind a refused %d: %x, %v, %d left", n, v, ok, r.Left())
		}
		if v, ok := r.Get(1); v != 0 || ok || r.Left() != 0 {
			t.Errorf("at the end: %x, %v, %d left", v, ok, r.Left())
		}
		if v, ok := r.Get(0); v != 0 || !ok || r.Left() != 0 {
			t.Errorf("no bits at the end: %x, %v, %d left", v, ok, r.Left())
		}
	}
	long := NewReader(bytes.Repeat([]byte{255}, 100))
	for _, n := range wrongSizes {
		if v, ok := long.Get(n); v != 0 || ok || long.Left() != 800 {
			t.Errorf("Get(%d) of many: %x, %v, %d left", n, v, ok, long.Left())
		}
	}
}

// P1.2: of nothing there is nothing, a nil list or an empty one.
func TestReaderOfNothing(t *testing.T) {
	for _, b := range [][]byte{nil, {}} {
		r := NewReader(b)
		if v, ok := r.Get(1); v != 0 || ok || r.Left() != 0 || !r.Rest() {
			t.Errorf("Get(1): %x, %v, %d left, rest %v", v, ok, r.Left(), r.Rest())
		}
		if v, ok := r.Get(0); v != 0 || !ok {
			t.Errorf("Get(0): %x, %v", v, ok)
		}
	}
}

// P1.2: Rest by every last byte and every place in it.
func TestRest(t *testing.T) {
	for c := range 256 {
		for got := range 9 {
			r := NewReader([]byte{255, byte(c)})
			if r.Rest() {
				t.Fatalf("%x: rest of two bytes", c)
			}
			r.Get(8 + got)
			want := got > 0
			for i := range 8 - got {
				want = want && c>>i&1 == 0
			}
			if r.Rest() != want || r.Rest() != want || r.Left() != 8-got {
				t.Errorf("%x, %d got: %v, want %v", c, got, r.Rest(), want)
			}
		}
	}
	if r := NewReader([]byte{0, 0}); r.Rest() {
		t.Error("sixteen noughts")
	} else if r.Get(7); r.Rest() {
		t.Error("nine noughts")
	} else if r.Get(1); r.Rest() {
		t.Error("eight noughts")
	} else if r.Get(1); !r.Rest() {
		t.Error("seven noughts")
	}
}

// P1.2: what is handed in is neither kept nor changed, its spare room neither.
func TestReaderKeepsNothing(t *testing.T) {
	room := []byte{0x12, 0x34, 0x56, 0x78}
	give := room[:2]
	r := NewReader(give)
	r.Get(3)
	room[0], room[1], room[2] = 255, 255, 255
	if v, ok := r.Get(13); v != 0x1234 || !ok {
		t.Errorf("changed from outside: %x, %v", v, ok)
	}
	if !bytes.Equal(room, []byte{255, 255, 255, 0x78}) {
		t.Errorf("changed: %x", room)
	}
}

// P1.3: what is put is got, in whatever pieces.
func TestWhatIsPutIsGot(t *testing.T) {
	chance := rand.New(rand.NewSource(1))
	type piece struct {
		v uint64
		n int
	}
	for range 300 {
		w := NewWriter()
		var pieces []piece
		var want row
		for range chance.Intn(60) {
			p := piece{chance.Uint64(), chance.Intn(65)}
			pieces, want = append(pieces, p), want.put(p.v, p.n)
			if !w.Put(p.v, p.n) {
				t.Fatalf("Put of %d bits", p.n)
			}
		}
		if w.Len() != len(want) || !bytes.Equal(w.Bytes(), want.bytes()) {
			t.Fatalf("%d bits, %x, want %d, %x", w.Len(), w.Bytes(), len(want), want.bytes())
		}
		r, at := NewReader(w.Bytes()), 0
		for i, p := range pieces {
			if v, ok := r.Get(p.n); !ok || v != want.number(at, p.n) {
				t.Fatalf("piece %d: %x, %v, want %x", i, v, ok, want.number(at, p.n))
			}
			at += p.n
		}
		if !r.Rest() || r.Left() != (8-at%8)%8 {
			t.Fatalf("behind all: %d left, rest %v", r.Left(), r.Rest())
		}
	}
}
