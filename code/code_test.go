package code

import (
	"bytes"
	"encoding/binary"
	"math"
	"math/rand"
	"slices"
	"strconv"
	"strings"
	"testing"

	"wafer/api"
)

// written are all operations as package api writes them, in its order, without a C ahead of those from Add to Le.
var written = strings.Fields("Halt Push Dup Drop Swap Local Load Store Move Add Sub Mul Div Mod Neg And Or Xor Inv Lsl Asr Ror Eq Lt Le Jump Zero CallTo Enter Leave Raise Getc Endc Putc")

// withK are those that have a K.
var withK = strings.Fields("Push Local Move Jump Zero CallTo Enter Raise")

// noOps are numbers of no operation.
var noOps = []int{-1, -2, -256, api.Ops, api.Ops + 1, 127, 128, 255, 256, 256 + api.Push, 1 << 31, 1 << 32, 1<<32 + api.Halt, math.MaxInt, math.MinInt}

// edges are Ks about those where one byte more is needed, and the ends.
func edges() []int32 {
	l := []int32{0, math.MaxInt32, math.MaxInt32 - 1, math.MinInt32, math.MinInt32 + 1}
	for i := range 31 {
		p := int32(1) << i
		l = append(l, p-1, p, -p, -p-1)
	}
	return l
}

// plain tells the bytes of a list by another's numbers.
func plain(l []api.Code) []byte {
	b := binary.AppendUvarint(nil, uint64(len(l)))
	for _, c := range l {
		b = append(b, byte(c.Op))
		if slices.Contains(withK, written[c.Op]) {
			b = binary.AppendVarint(b, int64(c.K))
		}
	}
	return b
}

// lists are right lists: of none, of each operation, of each edge, long ones.
func lists() [][]api.Code {
	l := [][]api.Code{nil, {}}
	var all, ks []api.Code
	for op := range api.Ops {
		all = append(all, api.Code{Op: op})
		l = append(l, []api.Code{{Op: op}})
	}
	for op := range api.Ops {
		if !slices.Contains(withK, written[op]) {
			continue
		}
		for _, k := range edges() {
			ks = append(ks, api.Code{Op: op, K: k})
			l = append(l, []api.Code{{Op: op, K: k}})
		}
	}
	l = append(l, all, ks)
	for _, n := range []int{126, 127, 128, 129, 16383, 16384} {
		l = append(l, slices.Repeat(all, n/len(all)+1)[:n], slices.Repeat([]api.Code{{Op: api.Push, K: -300}}, n))
	}
	return l
}

// noBytes checks that Decode refuses b.
func noBytes(t *testing.T, b []byte) {
	t.Helper()
	if l, err := Decode(b); len(l) != 0 || err != api.ErrBytes {
		t.Errorf("Decode(%.30x), %d bytes: %d, %v", b, len(b), len(l), err)
	}
}

// P7.1: which operations have a K.
func TestHas(t *testing.T) {
	if len(written) != api.Ops {
		t.Fatalf("%d names", len(written))
	}
	for op, name := range written {
		if Has(op) != slices.Contains(withK, name) {
			t.Errorf("Has(%s): %v", name, Has(op))
		}
	}
	for _, op := range noOps {
		if Has(op) {
			t.Errorf("Has(%d)", op)
		}
	}
}

// P7.1: the chapter's example, and bytes by hand.
func TestBytes(t *testing.T) {
	for _, x := range []struct {
		l []api.Code
		b string
	}{
		{nil, "\x00"},
		{[]api.Code{{Op: api.Push, K: 1}, {Op: api.Halt}}, "\x02\x01\x02\x00"},
		{[]api.Code{{Op: api.Halt}}, "\x01\x00"},
		{[]api.Code{{Op: api.Push}}, "\x01\x01\x00"},
		{[]api.Code{{Op: api.Push, K: -1}}, "\x01\x01\x01"},
		{[]api.Code{{Op: api.Push, K: 150}}, "\x01\x01\xac\x02"},
		{[]api.Code{{Op: api.Push, K: math.MinInt32}}, "\x01\x01\xff\xff\xff\xff\x0f"},
		{[]api.Code{{Op: api.Push, K: math.MaxInt32}}, "\x01\x01\xfe\xff\xff\xff\x0f"},
		{[]api.Code{{Op: api.Getc}, {Op: api.Endc}, {Op: api.Putc}}, "\x03\x1f\x20\x21"},
		{[]api.Code{{Op: api.Local, K: 3}, {Op: api.Move, K: 4}, {Op: api.Jump, K: 5}, {Op: api.Zero, K: 6}, {Op: api.CallTo, K: 7}, {Op: api.Enter, K: 8}, {Op: api.Raise, K: 9}}, "\x07\x05\x06\x08\x08\x19\x0a\x1a\x0c\x1b\x0e\x1c\x10\x1e\x12"},
	} {
		if b, err := Encode(x.l); string(b) != x.b || err != api.OK {
			t.Errorf("Encode(%v): %x, %v, want %x", x.l, b, err, x.b)
		}
		if l, err := Decode([]byte(x.b)); !slices.Equal(l, x.l) || err != api.OK {
			t.Errorf("Decode(%x): %v, %v, want %v", x.b, l, err, x.l)
		}
	}
}

// P7.1, P7.3: all operations, Ks and counts, against the plain bytes, there and back.
func TestThereAndBack(t *testing.T) {
	for _, l := range lists() {
		b, err := Encode(l)
		if !bytes.Equal(b, plain(l)) || err != api.OK {
			t.Fatalf("Encode(%.100v): %.100x, %v", l, b, err)
		}
		if back, err := Decode(b); !slices.Equal(back, l) || err != api.OK {
			t.Fatalf("Decode(%.100x): %.100v, %v", b, back, err)
		}
	}
}

// wrongs are instructions that no call takes.
func wrongs() []api.Code {
	var l []api.Code
	for _, op := range noOps {
		l = append(l, api.Code{Op: op}, api.Code{Op: op, K: 1})
	}
	for op, name := range written {
		for _, k := range edges() {
			if k != 0 && !slices.Contains(withK, name) {
				l = append(l, api.Code{Op: op, K: k})
			}
		}
	}
	return l
}

// P7.1, P7.2: ErrInstr, nothing, of an Op that isn't, of a K that it hasn't, wherever it stands; its text is ?.
func TestWrongInstructions(t *testing.T) {
	right := []api.Code{{Op: api.Push, K: 7}, {Op: api.Putc}, {Op: api.Halt}}
	for _, c := range wrongs() {
		for at := range len(right) + 1 {
			l := slices.Insert(slices.Clone(right), at, c)
			if b, err := Encode(l); len(b) != 0 || err != api.ErrInstr {
				t.Errorf("Encode(%v): %x, %v", l, b, err)
			}
		}
		if s := Text(c); s != "?" {
			t.Errorf("Text(%v): %q", c, s)
		}
	}
}

// P7.1: ErrBytes of what is cut off anywhere, of more behind, of another count.
func TestOtherEnds(t *testing.T) {
	for _, l := range lists() {
		b := plain(l)
		for i := range b {
			if i < 40 || i > len(b)-5 {
				noBytes(t, b[:i:len(b)])
			}
		}
		for _, more := range []string{"\x00", "\x01\x02", "\xff"} {
			noBytes(t, append(slices.Clone(b), more...))
		}
		_, n := binary.Uvarint(b)
		for _, count := range []uint64{uint64(len(l)) + 1, 1 << 31, 1 << 32, math.MaxInt64, 1 << 63, 1<<63 + uint64(len(l)), math.MaxUint64} {
			noBytes(t, append(binary.AppendUvarint(nil, count), b[n:]...))
		}
		if len(l) > 0 {
			noBytes(t, append(binary.AppendUvarint(nil, uint64(len(l)-1)), b[n:]...))
		}
	}
	noBytes(t, nil)
	noBytes(t, []byte{})
}

// P7.1: ErrBytes of numbers that aren't as few bytes as they can be, or too great.
func TestOtherNumbers(t *testing.T) {
	nines := strings.Repeat("\xff", 9)
	for _, count := range []string{"\x80", "\x81\x00", "\x81\x80\x00", "\x80\x00", nines + "\x02", nines + "\xff\x01"} {
		noBytes(t, []byte(count))
		noBytes(t, []byte(count+"\x00"))
	}
	for op, name := range written {
		if !slices.Contains(withK, name) {
			continue
		}
		for _, k := range []string{"", "\x80", "\x80\x00", "\x82\x00", "\xff\xff\xff\xff\x8f\x00", nines + "\x02", nines + "\xff\x01"} {
			noBytes(t, append([]byte{1, byte(op)}, k...))
			noBytes(t, append([]byte{2, byte(op)}, k+"\x00"...))
		}
		for _, k := range []int64{math.MaxInt32 + 1, math.MinInt32 - 1, math.MaxInt32 + 2, 1 << 32, -1 << 32, 1<<32 + 1, math.MaxInt64, math.MinInt64} {
			noBytes(t, binary.AppendVarint([]byte{1, byte(op)}, k))
		}
	}
}

// P7.1: ErrBytes of each byte that is no operation's, at each place.
func TestOtherOperations(t *testing.T) {
	for op := api.Ops; op < 256; op++ {
		noBytes(t, []byte{1, byte(op)})
		noBytes(t, []byte{1, byte(op), 0})
		noBytes(t, []byte{2, api.Halt, byte(op)})
		noBytes(t, []byte{2, byte(op), api.Halt})
	}
}

// P7.1, P7.3: of any bytes: what Decode takes is what Encode tells.
func TestAnyBytes(t *testing.T) {
	chance := rand.New(rand.NewSource(71))
	taken := 0
	for range 200000 {
		b := make([]byte, chance.Intn(9))
		for i := range b {
			b[i] = byte(chance.Intn(api.Ops + 3))
			if i == 0 {
				b[i] %= 8
			} else if chance.Intn(6) == 0 {
				b[i] |= 0x80
			}
		}
		l, err := Decode(b)
		if err != api.OK {
			noBytes(t, b)
			continue
		}
		taken++
		if back, err := Encode(l); !bytes.Equal(back, b) || err != api.OK {
			t.Fatalf("Encode(Decode(%x)): %x, %v", b, back, err)
		}
	}
	if taken < 1000 {
		t.Errorf("only %d taken", taken)
	}
}

// P7.2: each name, and K behind it, where there is one.
func TestText(t *testing.T) {
	for op, name := range written {
		if !slices.Contains(withK, name) {
			if s := Text(api.Code{Op: op}); s != name {
				t.Errorf("Text(%s): %q", name, s)
			}
			continue
		}
		for _, k := range edges() {
			if s := Text(api.Code{Op: op, K: k}); s != name+" "+strconv.Itoa(int(k)) {
				t.Errorf("Text(%s, %d): %q", name, k, s)
			}
		}
	}
}

// P7.2: texts by hand, by package api's own names of the operations.
func TestTexts(t *testing.T) {
	for s, c := range map[string]api.Code{
		"Halt": {Op: api.Halt}, "Push 0": {Op: api.Push}, "Push -2147483648": {Op: api.Push, K: math.MinInt32}, "Dup": {Op: api.Dup}, "Drop": {Op: api.Drop}, "Swap": {Op: api.Swap},
		"Local 12": {Op: api.Local, K: 12}, "Load": {Op: api.Load}, "Store": {Op: api.Store}, "Move 1024": {Op: api.Move, K: 1024},
		"Add": {Op: api.CAdd}, "Sub": {Op: api.CSub}, "Mul": {Op: api.CMul}, "Div": {Op: api.CDiv}, "Mod": {Op: api.CMod}, "Neg": {Op: api.CNeg}, "And": {Op: api.CAnd}, "Or": {Op: api.COr},
		"Xor": {Op: api.CXor}, "Inv": {Op: api.CInv}, "Lsl": {Op: api.CLsl}, "Asr": {Op: api.CAsr}, "Ror": {Op: api.CRor}, "Eq": {Op: api.CEq}, "Lt": {Op: api.CLt}, "Le": {Op: api.CLe},
		"Jump 3": {Op: api.Jump, K: 3}, "Zero 4": {Op: api.Zero, K: 4}, "CallTo 5": {Op: api.CallTo, K: 5}, "Enter 6": {Op: api.Enter, K: 6}, "Leave": {Op: api.Leave}, "Raise 7": {Op: api.Raise, K: 7},
		"Getc": {Op: api.Getc}, "Endc": {Op: api.Endc}, "Putc": {Op: api.Putc}, "?": {Op: api.Ops},
	} {
		if got := Text(c); got != s {
			t.Errorf("Text(%v): %q, want %q", c, got, s)
		}
	}
}

// P7.1: what is handed in isn't changed, nor kept; what is told is new memory.
func TestNewMemory(t *testing.T) {
	for _, l := range lists() {
		room := append(slices.Clone(l), api.Code{Op: 9, K: 9}, api.Code{Op: 8, K: 8})
		before := slices.Clone(room)
		b, _ := Encode(room[:len(l)])
		if !slices.Equal(room, before) {
			t.Fatalf("Encode changes what is handed in, of %d", len(l))
		}
		all := append(slices.Clone(b), 5, 6, 7)
		old := slices.Clone(all)
		back, _ := Decode(all[:len(b)])
		if !bytes.Equal(all, old) {
			t.Fatalf("Decode changes what is handed in, of %d", len(l))
		}
		clear(all)
		if !slices.Equal(back, l) {
			t.Fatalf("Decode keeps what is handed in, of %d", len(l))
		}
	}
}
