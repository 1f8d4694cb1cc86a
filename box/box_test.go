package box

import (
	"bytes"
	"encoding/binary"
	"hash/adler32"
	"math"
	"math/rand"
	"strings"
	"testing"

	"wafer/api"
)

// file tells a file as plainly as can be: its head, its length by other means, the payload, another's sum.
func file(kind byte, size uint64, payload []byte) []byte {
	b := append([]byte("WAFR"), kind)
	b = binary.AppendUvarint(b, size)
	b = append(b, payload...)
	return binary.BigEndian.AppendUint32(b, adler32.Checksum(b))
}

// fileOf tells a right file.
func fileOf(kind byte, payload []byte) []byte { return file(kind, uint64(len(payload)), payload) }

// summed tells b with a right sum behind it.
func summed(b []byte) []byte {
	return binary.BigEndian.AppendUint32(append([]byte(nil), b...), adler32.Checksum(b))
}

// payloads are such of many lengths, about those where the length takes another byte too.
func payloads() [][]byte {
	l := [][]byte{nil, {}, {0}, {255}, []byte("WAFR"), []byte("Wikipedia"), fileOf(7, []byte{1, 2})}
	chance := rand.New(rand.NewSource(4))
	for _, n := range []int{1, 2, 3, 4, 5, 126, 127, 128, 129, 255, 256, 300, 16383, 16384, 16385, 70000} {
		b := make([]byte, n)
		chance.Read(b)
		l = append(l, b, make([]byte, n), bytes.Repeat([]byte{255}, n))
	}
	return l
}

// refused checks that Open tells that error and nothing beside it.
func refused(t *testing.T, b []byte, want api.Errno) {
	t.Helper()
	if kind, payload, err := Open(b); kind != 0 || len(payload) != 0 || err != want {
		t.Errorf("Open(%.40x), %d bytes: %d, %d bytes, %v, want %v", b, len(b), kind, len(payload), err, want)
	}
}

// P4.1: the chapter's example, and sums by hand.
func TestSum(t *testing.T) {
	for _, x := range []struct {
		b    string
		want uint32
	}{
		{"", 1},
		{"\x00", 0x00010001},
		{"\x01", 0x00020002},
		{"a", 0x00620062},
		{"abc", 0x024d0127},
		{"Wikipedia", 0x11e60398},
		{"\xff\xff", 0x02ff01ff},
		// The second number is taken by 65521 long before the first one is.
		{strings.Repeat("\x00", 65520), 0xfff00001},
		{strings.Repeat("\x00", 65521), 0x00000001},
		{strings.Repeat("\x00", 65522), 0x00010001},
		{strings.Repeat("\xff", 256) + "\xf0", 0x08000000},
	} {
		if got := Sum([]byte(x.b)); got != x.want {
			t.Errorf("Sum(%.20q), %d bytes: %08x, want %08x", x.b, len(x.b), got, x.want)
		}
	}
	if Sum(nil) != 1 {
		t.Errorf("of nil: %08x", Sum(nil))
	}
}

// P4.1: against another's Adler-32, of all lengths and of bytes of which the numbers wrap most often.
func TestSumOfAll(t *testing.T) {
	chance := rand.New(rand.NewSource(5))
	l := payloads()
	for n := range 1200 {
		b := make([]byte, n)
		chance.Read(b)
		l = append(l, b, bytes.Repeat([]byte{255}, n))
	}
	l = append(l, bytes.Repeat([]byte{255}, 1<<20))
	for _, b := range l {
		if got, want := Sum(b), adler32.Checksum(b); got != want {
			t.Errorf("Sum of %d bytes: %08x, want %08x", len(b), got, want)
		}
	}
}

// P4.1: what each part of a file is, byte by byte.
func TestWrap(t *testing.T) {
	for _, x := range []struct {
		kind    byte
		payload string
		want    string
	}{
		{0, "", "WAFR\x00\x00\x05\x63\x01\x31"},
		{7, "", "WAFR\x07\x00\x05\x71\x01\x38"},
		{1, "ab", "WAFR\x01\x02ab\x08\xf3\x01\xf7"},
		{255, "\x00", "WAFR\xff\x01\x00\x09\x93\x02\x31"},
	} {
		if b, err := Wrap(x.kind, []byte(x.payload)); string(b) != x.want || err != api.OK {
			t.Errorf("Wrap(%d, %q): %q, %v, want %q", x.kind, x.payload, b, err, x.want)
		}
	}
}

// P4.1, P4.2: each kind and many payloads, against the plain file, there and back.
func TestWrapOpen(t *testing.T) {
	for i, payload := range payloads() {
		for kind := range 256 {
			if kind%16 != i%16 && len(payload) > 300 {
				continue
			}
			b, err := Wrap(byte(kind), payload)
			if !bytes.Equal(b, fileOf(byte(kind), payload)) || err != api.OK {
				t.Fatalf("Wrap(%d) of %d bytes: %.40x, %v", kind, len(payload), b, err)
			}
			if k, got, err := Open(b); int(k) != kind || !bytes.Equal(got, payload) || err != api.OK {
				t.Fatalf("Open(%d) of %d bytes: %d, %d bytes, %v", kind, len(payload), k, len(got), err)
			}
		}
	}
}

// P4.1, P4.2: the greatest payload, and those past it, whole and cut off.
func TestMaxFile(t *testing.T) {
	payload := bytes.Repeat([]byte{0xa5, 1, 0}, api.MaxFile/3+1)
	most := payload[:api.MaxFile]
	b, err := Wrap(9, most)
	if err != api.OK || !bytes.Equal(b, fileOf(9, most)) {
		t.Fatalf("Wrap of the greatest: %d bytes, %v", len(b), err)
	}
	if kind, got, err := Open(b); kind != 9 || !bytes.Equal(got, most) || err != api.OK {
		t.Errorf("Open of the greatest: %d, %d bytes, %v", kind, len(got), err)
	}
	refused(t, b[:len(b)-1], api.ErrBytes)
	refused(t, append(b, 0), api.ErrBytes)
	over := payload[:api.MaxFile+1]
	for _, p := range [][]byte{over, payload} {
		if b, err := Wrap(9, p); len(b) != 0 || err != api.ErrSize {
			t.Errorf("Wrap of %d bytes: %d, %v", len(p), len(b), err)
		}
	}
	whole := fileOf(9, over)
	refused(t, whole, api.ErrSize)
	refused(t, whole[:len(whole)-1], api.ErrSize)
	refused(t, append(whole, 0), api.ErrSize)
	whole[len(whole)-1] ^= 1
	refused(t, whole, api.ErrSize)
}

// P4.2: ErrBytes of what doesn't begin so, with a right sum or another.
func TestOpenOtherBeginnings(t *testing.T) {
	for _, b := range [][]byte{nil, {}, []byte("W"), []byte("wafr"), bytes.Repeat([]byte{0}, 20), make([]byte, 4)} {
		refused(t, b, api.ErrBytes)
		refused(t, summed(b), api.ErrBytes)
	}
	right := fileOf(3, []byte("abc"))
	refused(t, right[1:], api.ErrBytes)
	refused(t, append([]byte{0}, right...), api.ErrBytes)
	for i := range 4 {
		other := append([]byte(nil), right...)
		other[i] ^= 0x20
		refused(t, other, api.ErrBytes)
		refused(t, summed(other[:len(other)-4]), api.ErrBytes)
	}
	// What doesn't begin so is told ahead of its length.
	refused(t, append([]byte("WAFS"), file(3, api.MaxFile+1, nil)[4:]...), api.ErrBytes)
}

// P4.2: ErrBytes of a length that varint.Read refuses: cut off, too long a form, too many bits.
func TestOpenOtherLengths(t *testing.T) {
	nines := strings.Repeat("\xff", 9)
	for _, size := range []string{"", "\x80", "\xff\xff", nines, "\x80\x00", "\x83\x00", "\x83\x80\x00", nines + "\x02", nines + "\xff", nines + "\xff\x01", strings.Repeat("\x80", 20)} {
		refused(t, []byte("WAFR\x03"+size), api.ErrBytes)
	}
	for _, size := range []string{"\x80\x00", "\x83\x00", "\x83\x80\x00", nines + "\x02", nines + "\xff\x01", strings.Repeat("\x80", 20)} {
		refused(t, summed([]byte("WAFR\x03"+size+"abc")), api.ErrBytes)
	}
}

// P4.2: ErrBytes of a file that is cut off anywhere, and of one with more behind, whatever sum there is.
func TestOpenOtherEnds(t *testing.T) {
	for _, payload := range payloads() {
		if len(payload) > 300 {
			continue
		}
		b := fileOf(3, payload)
		for i := range b {
			refused(t, b[:i], api.ErrBytes)
			// Summed anew where its sum begins, it is whole again.
			if i < len(b)-4 {
				refused(t, summed(b[:i]), api.ErrBytes)
			}
		}
		for _, more := range [][]byte{{0}, {255}, make([]byte, 4), []byte("WAFR"), b} {
			refused(t, append(append([]byte(nil), b...), more...), api.ErrBytes)
		}
		refused(t, summed(b), api.ErrBytes)
		refused(t, file(3, uint64(len(payload))+1, payload), api.ErrBytes)
		if len(payload) > 0 {
			refused(t, file(3, uint64(len(payload))-1, payload), api.ErrBytes)
		}
	}
}

// P4.2: a length above MaxFile is told ahead of what is cut off; one that isn't above it, not.
func TestOpenTooGreat(t *testing.T) {
	for _, size := range []uint64{api.MaxFile + 1, api.MaxFile + 2, 1 << 25, 1<<31 - 1, 1 << 31, 1<<32 - 1, 1 << 32, 1<<32 + 3, math.MaxInt64 - 13, math.MaxInt64, 1 << 63, math.MaxUint64 - 9, math.MaxUint64 - 3, math.MaxUint64} {
		b := file(3, size, []byte("abc"))
		refused(t, b, api.ErrSize)
		for i := 1; i <= 7; i++ {
			refused(t, b[:len(b)-i], api.ErrSize)
		}
	}
	for _, size := range []uint64{api.MaxFile, api.MaxFile - 1, 1 << 20} {
		refused(t, file(3, size, []byte("abc")), api.ErrBytes)
	}
}

// P4.2: ErrSum, if nothing else is wrong: each bit of the sum, and its bytes the other way round.
func TestOpenOtherSums(t *testing.T) {
	for _, payload := range payloads() {
		b := fileOf(3, payload)
		end := len(b) - 4
		for i := range 32 {
			other := append([]byte(nil), b...)
			other[end+i/8] ^= 1 << (i % 8)
			refused(t, other, api.ErrSum)
		}
		refused(t, binary.LittleEndian.AppendUint32(b[:end:end], adler32.Checksum(b[:end])), api.ErrSum)
		refused(t, binary.BigEndian.AppendUint32(b[:end:end], adler32.Checksum(payload)), api.ErrSum)
		refused(t, append(b[:end:end], 0, 0, 0, 0), api.ErrSum)
	}
}

// P4.3: no file with a byte changed is one: each place, each other byte.
func TestByteChanged(t *testing.T) {
	chance := rand.New(rand.NewSource(6))
	long := make([]byte, 128)
	chance.Read(long)
	for _, payload := range [][]byte{nil, {0}, {255}, []byte("WAFR"), []byte("Wikipedia"), long[:127], long, bytes.Repeat([]byte{1}, 16384)} {
		b, err := Wrap(byte(chance.Intn(256)), payload)
		if err != api.OK {
			t.Fatal(err)
		}
		for i := range b {
			if i > 300 && i < len(b)-6 {
				continue
			}
			for c := 1; c < 256; c++ {
				if i > 6 && len(b) > 1000 && c&(c-1) != 0 {
					continue
				}
				b[i] ^= byte(c)
				if kind, got, err := Open(b); kind != 0 || len(got) != 0 || err == api.OK {
					t.Fatalf("%d bytes, byte %d by %x: %d, %d bytes, %v", len(b), i, c, kind, len(got), err)
				}
				b[i] ^= byte(c)
			}
		}
	}
}

// P4.1, P4.2: what is handed in isn't changed, its spare room neither; what is told is new memory.
func TestNewMemory(t *testing.T) {
	for _, payload := range payloads() {
		all := append(append([]byte(nil), payload...), bytes.Repeat([]byte{0x5a}, 32)...)
		before := append([]byte(nil), all...)
		Sum(all[:len(payload)])
		b, _ := Wrap(8, all[:len(payload)])
		if !bytes.Equal(all, before) {
			t.Fatalf("Sum or Wrap changes what is handed in, of %d bytes", len(payload))
		}
		clear(all)
		if !bytes.Equal(b, fileOf(8, payload)) {
			t.Fatalf("Wrap keeps what is handed in, of %d bytes", len(payload))
		}
		all = append(b, bytes.Repeat([]byte{0x5a}, 32)...)
		before = append([]byte(nil), all...)
		_, got, _ := Open(all[:len(b)])
		if !bytes.Equal(all, before) {
			t.Fatalf("Open changes what is handed in, of %d bytes", len(payload))
		}
		clear(all)
		if !bytes.Equal(got, payload) {
			t.Fatalf("Open keeps what is handed in, of %d bytes", len(payload))
		}
		copy(all, before)
		for i, c := range got[:cap(got)] {
			got[:cap(got)][i] = ^c
		}
		if !bytes.Equal(all, before) {
			t.Fatalf("Open hands out what is handed in, of %d bytes", len(payload))
		}
	}
}

// P4.2: Open looks no further than b's end.
func TestOpenLooksAtItsOwn(t *testing.T) {
	b := fileOf(3, []byte("abc"))
	for i := range b {
		refused(t, b[:i:len(b)], api.ErrBytes)
	}
}
