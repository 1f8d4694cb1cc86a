package varint

import (
	"bytes"
	"math"
	"math/big"
	"math/rand"
	"strconv"
	"testing"
)

// plain tells v's bytes as plainly as can be: its binary digits, cut from the right by sevens.
func plain(v uint64) []byte {
	var l []byte
	for s := strconv.FormatUint(v, 2); s != ""; {
		cut := max(0, len(s)-7)
		c, err := strconv.ParseUint(s[cut:], 2, 8)
		if err != nil {
			panic(err)
		}
		if s = s[:cut]; s != "" {
			c += 128
		}
		l = append(l, byte(c))
	}
	return l
}

// doubled tells, in numbers of any size, what PutInt puts for v.
func doubled(v int64) uint64 {
	two := new(big.Int).Mul(big.NewInt(v), big.NewInt(2))
	if v < 0 {
		two.Neg(two).Sub(two, big.NewInt(1))
	}
	if !two.IsUint64() {
		panic(two.String())
	}
	return two.Uint64()
}

// edges are the numbers about each power of two, and some others by chance.
func edges() []uint64 {
	l := []uint64{0, 300, math.MaxUint64}
	for i := range 64 {
		p := uint64(1) << i
		l = append(l, p-1, p, p+1, ^p, -p)
	}
	chance := rand.New(rand.NewSource(2))
	for range 2000 {
		l = append(l, chance.Uint64()>>chance.Intn(64))
	}
	return l
}

// inRoom tells l with spare room behind it, and all of that memory.
func inRoom(l []byte) ([]byte, []byte) {
	all := append(append([]byte(nil), l...), bytes.Repeat([]byte{0x5a}, 16)...)
	return all[:len(l)], all
}

// P2.1: the chapter's example, and each number of bytes at its edges.
func TestPut(t *testing.T) {
	for _, x := range []struct {
		v    uint64
		want []byte
	}{
		{0, []byte{0}},
		{1, []byte{1}},
		{127, []byte{0x7f}},
		{128, []byte{0x80, 1}},
		{300, []byte{0xac, 2}},
		{16383, []byte{0xff, 0x7f}},
		{16384, []byte{0x80, 0x80, 1}},
		{1<<56 - 1, []byte{255, 255, 255, 255, 255, 255, 255, 0x7f}},
		{1 << 56, []byte{0x80, 0x80, 0x80, 0x80, 0x80, 0x80, 0x80, 0x80, 1}},
		{1<<63 - 1, []byte{255, 255, 255, 255, 255, 255, 255, 255, 0x7f}},
		{1 << 63, []byte{0x80, 0x80, 0x80, 0x80, 0x80, 0x80, 0x80, 0x80, 0x80, 1}},
		{math.MaxUint64, []byte{255, 255, 255, 255, 255, 255, 255, 255, 255, 1}},
	} {
		if l := Put(nil, x.v); !bytes.Equal(l, x.want) {
			t.Errorf("Put(%d): %x, want %x", x.v, l, x.want)
		}
	}
}

// P2.1: against the plain digits, behind nothing and behind bytes of every kind.
func TestPutBehind(t *testing.T) {
	for _, v := range edges() {
		for _, b := range [][]byte{nil, {}, {0}, {0x80}, {255, 255}, {1, 2, 3}} {
			if l, want := Put(b, v), append(append([]byte(nil), b...), plain(v)...); !bytes.Equal(l, want) {
				t.Errorf("Put(%x, %d): %x, want %x", b, v, l, want)
			}
		}
	}
}

// P2.1: each number, cut off at each place, and with bytes behind that Read has no business with.
func TestRead(t *testing.T) {
	for _, v := range edges() {
		l := plain(v)
		for i := range l {
			if u, n, ok := Read(l[:i]); u != 0 || n != 0 || ok {
				t.Errorf("Read(%x): %d, %d, %v", l[:i], u, n, ok)
			}
		}
		for _, rest := range [][]byte{nil, {0}, {1}, {0x80}, bytes.Repeat([]byte{255}, 20)} {
			b := append(append([]byte(nil), l...), rest...)
			if u, n, ok := Read(b); u != v || n != len(l) || !ok {
				t.Errorf("Read(%x): %d, %d, %v, want %d, %d", b, u, n, ok, v, len(l))
			}
		}
	}
}

// wrong are the bytes that no number begins with.
func wrong() [][]byte {
	nines := func(c byte) []byte { return bytes.Repeat([]byte{c}, 9) }
	return [][]byte{
		nil, {},
		// They end ahead.
		{0x80}, {255}, {0xac}, {0x80, 0x80}, {255, 255, 255}, nines(0x80), nines(255),
		// They aren't as few as they can be.
		{0x80, 0}, {255, 0}, {0xac, 0x82, 0}, {0x80, 0x80, 0}, {0x80, 0, 1}, {255, 0, 255},
		append(nines(255), 0), append(nines(0x80), 0),
		// They have more than 64 bits.
		append(nines(255), 2), append(nines(0x80), 2), append(nines(0x80), 3), append(nines(255), 0x7f), append(nines(0x80), 0x40),
		append(nines(0x80), 0x80, 0), append(nines(0x80), 0x80, 1), append(nines(255), 0x81, 0), append(nines(255), 255, 1),
		append(nines(0x80), 0x80, 0x80, 1), append(append(nines(0x80), nines(0x80)...), 1),
		bytes.Repeat([]byte{0x80}, 1000), bytes.Repeat([]byte{255}, 1000),
		append(bytes.Repeat([]byte{0x80}, 128), 1),
	}
}

// P2.1, P2.2: 0, 0, false of what no number begins with.
func TestReadRefuses(t *testing.T) {
	for _, b := range wrong() {
		if u, n, ok := Read(b); u != 0 || n != 0 || ok {
			t.Errorf("Read(%x): %d, %d, %v", b, u, n, ok)
		}
		if v, n, ok := ReadInt(b); v != 0 || n != 0 || ok {
			t.Errorf("ReadInt(%x): %d, %d, %v", b, v, n, ok)
		}
	}
}

// P2.2: both sides of nought, and the ends.
func TestPutInt(t *testing.T) {
	for _, x := range []struct {
		v    int64
		want []byte
	}{
		{0, []byte{0}},
		{-1, []byte{1}},
		{1, []byte{2}},
		{-2, []byte{3}},
		{63, []byte{0x7e}},
		{-64, []byte{0x7f}},
		{64, []byte{0x80, 1}},
		{-65, []byte{0x81, 1}},
		{150, []byte{0xac, 2}},
		{math.MaxInt64, []byte{0xfe, 255, 255, 255, 255, 255, 255, 255, 255, 1}},
		{math.MinInt64, []byte{255, 255, 255, 255, 255, 255, 255, 255, 255, 1}},
	} {
		if l := PutInt(nil, x.v); !bytes.Equal(l, x.want) {
			t.Errorf("PutInt(%d): %x, want %x", x.v, l, x.want)
		}
		if v, n, ok := ReadInt(x.want); v != x.v || n != len(x.want) || !ok {
			t.Errorf("ReadInt(%x): %d, %d, %v, want %d", x.want, v, n, ok, x.v)
		}
	}
}

// P2.2: against numbers of any size, behind other bytes and with others behind.
func TestIntsBehind(t *testing.T) {
	for _, u := range edges() {
		v := int64(u)
		l := plain(doubled(v))
		for _, b := range [][]byte{nil, {}, {0x80}, {1, 2, 3}} {
			if got, want := PutInt(b, v), append(append([]byte(nil), b...), l...); !bytes.Equal(got, want) {
				t.Errorf("PutInt(%x, %d): %x, want %x", b, v, got, want)
			}
			if got, n, ok := ReadInt(append(append([]byte(nil), l...), b...)); got != v || n != len(l) || !ok {
				t.Errorf("ReadInt(%x, %x): %d, %d, %v, want %d", l, b, got, n, ok, v)
			}
		}
		for i := range l {
			if got, n, ok := ReadInt(l[:i]); got != 0 || n != 0 || ok {
				t.Errorf("ReadInt(%x): %d, %d, %v", l[:i], got, n, ok)
			}
		}
	}
}

// P2.1, P2.2: what is handed in isn't changed, its spare room neither; what is told is new memory.
func TestNewMemory(t *testing.T) {
	for _, put := range []func(b []byte) []byte{
		func(b []byte) []byte { return Put(b, math.MaxUint64) },
		func(b []byte) []byte { return Put(b, 0) },
		func(b []byte) []byte { return PutInt(b, math.MinInt64) },
		func(b []byte) []byte { return PutInt(b, 0) },
	} {
		for _, give := range [][]byte{{}, {7}, {0x80, 0x81, 0x82}} {
			b, all := inRoom(give)
			before := append([]byte(nil), all...)
			l := put(b)
			want := append([]byte(nil), l...)
			if !bytes.Equal(all, before) {
				t.Errorf("Put behind %x changes it: %x", give, all)
			}
			clear(all)
			if !bytes.Equal(l, want) {
				t.Errorf("Put behind %x keeps it: %x, want %x", give, l, want)
			}
			copy(all, before)
			for i, c := range l[:cap(l)] {
				l[:cap(l)][i] = ^c
			}
			if !bytes.Equal(all, before) {
				t.Errorf("Put behind %x hands it out: %x", give, all)
			}
		}
	}
}

// P2.1, P2.2: Read and ReadInt look no further than b's end, and change nothing.
func TestReadLooksAtItsOwn(t *testing.T) {
	all := []byte{0x80, 0x81, 1, 0x85}
	before := append([]byte(nil), all...)
	if u, n, ok := Read(all[:2]); u != 0 || n != 0 || ok {
		t.Errorf("Read beyond the end: %d, %d, %v", u, n, ok)
	}
	if v, n, ok := ReadInt(all[:2]); v != 0 || n != 0 || ok {
		t.Errorf("ReadInt beyond the end: %d, %d, %v", v, n, ok)
	}
	if u, n, ok := Read(all); u != 1<<14|1<<7 || n != 3 || !ok {
		t.Errorf("Read: %d, %d, %v", u, n, ok)
	}
	if v, n, ok := ReadInt(all); v != 1<<13|1<<6 || n != 3 || !ok {
		t.Errorf("ReadInt: %d, %d, %v", v, n, ok)
	}
	if !bytes.Equal(all, before) {
		t.Errorf("changed: %x", all)
	}
}

// oneForm checks that whatever b begins with, if anything, is just what is put for it.
func oneForm(t *testing.T, b []byte) {
	t.Helper()
	u, n, ok := Read(b)
	v, m, also := ReadInt(b)
	if ok != also || n != m {
		t.Fatalf("%x: Read %d, %v, ReadInt %d, %v", b, n, ok, m, also)
	}
	if !ok {
		if u != 0 || v != 0 || n != 0 {
			t.Fatalf("%x: refused with %d, %d, %d", b, u, v, n)
		}
		return
	}
	if n < 1 || n > len(b) || !bytes.Equal(Put(nil, u), b[:n]) || !bytes.Equal(PutInt(nil, v), b[:n]) {
		t.Fatalf("%x: %d, %d in %d bytes has another form: %x, %x", b, u, v, n, Put(nil, u), PutInt(nil, v))
	}
}

// P2.3: each number has one form: all of one byte and two, many of three, and long ones about the edges.
func TestOneForm(t *testing.T) {
	oneForm(t, nil)
	for i := range 1 << 8 {
		oneForm(t, []byte{byte(i)})
		for j := range 1 << 8 {
			oneForm(t, []byte{byte(i), byte(j)})
			oneForm(t, []byte{0x80, byte(i), byte(j)})
			oneForm(t, []byte{0xff, byte(i), byte(j)})
		}
	}
	chance := rand.New(rand.NewSource(3))
	for range 100000 {
		b := make([]byte, 1+chance.Intn(12))
		for i := range b {
			b[i] = byte(chance.Intn(256)) | 0x80
		}
		b[len(b)-1] = byte(chance.Intn(4))
		oneForm(t, b)
	}
}

// P2.3: what is put is read, one number behind another.
func TestWhatIsPutIsRead(t *testing.T) {
	var b []byte
	all := edges()
	for _, u := range all {
		b = PutInt(Put(b, u), int64(u))
	}
	for _, want := range all {
		u, n, ok := Read(b)
		if u != want || !ok {
			t.Fatalf("Read: %d, %v, want %d", u, ok, want)
		}
		b = b[n:]
		v, n, ok := ReadInt(b)
		if v != int64(want) || !ok {
			t.Fatalf("ReadInt: %d, %v, want %d", v, ok, int64(want))
		}
		b = b[n:]
	}
	if len(b) != 0 {
		t.Errorf("%d bytes behind all", len(b))
	}
}
