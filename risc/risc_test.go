package risc

import (
	"math"
	"math/rand"
	"strconv"
	"strings"
	"testing"

	"wafer/api"
)

// bitsOf tells v's lowest n bits as plainly as can be: a text of 0 and 1, the highest one first.
func bitsOf(v int64, n int) string {
	s := ""
	for i := range n {
		s = strconv.Itoa(int(uint64(v)>>i&1)) + s
	}
	return s
}

// plain tells an instruction's word, put together as the chapter tells it, from the highest bit on.
func plain(i api.Instr) uint32 {
	one := map[bool]string{true: "1", false: "0"}
	s := bitsOf(int64(i.F), 2) + one[i.U] + one[i.V] + bitsOf(int64(i.A), 4)
	switch {
	case i.F == 0:
		s += bitsOf(int64(i.B), 4) + bitsOf(int64(i.Op), 4) + strings.Repeat("0", 12) + bitsOf(int64(i.C), 4)
	case i.F == 1:
		s += bitsOf(int64(i.B), 4) + bitsOf(int64(i.Op), 4) + bitsOf(int64(i.Imm), 16)
	case i.F == 2:
		s += bitsOf(int64(i.B), 4) + bitsOf(int64(i.Imm), 20)
	case i.U:
		s += bitsOf(int64(i.Imm), 24)
	default:
		s += strings.Repeat("0", 16) + bitsOf(int64(i.Imm), 4) + bitsOf(int64(i.C), 4)
	}
	w, err := strconv.ParseUint(s, 2, 32)
	if err != nil || len(s) != 32 {
		panic(s)
	}
	return uint32(w)
}

// imms tells the edges of Imm of a format, and the least and the greatest.
func imms(f int, u bool) (l []int32, least, most int32) {
	switch {
	case f == 0:
		least, most = 0, 0
	case f == 1:
		least, most = 0, 65535
	case f == 2:
		least, most = -1<<19, 1<<19-1
	case u:
		least, most = -1<<23, 1<<23-1
	default:
		least, most = 0, 15
	}
	for _, v := range []int32{0, 1, 5, 7, 8, 14, 15, 16, 255, 256, 0x5a5a, 1<<15 - 1, 1 << 15, 65535, 65536, 1<<18 + 3, 1<<19 - 1, 1 << 19, 1<<22 + 9, 1<<23 - 1, -1, -2, -64, -60, -1 << 15, -1 << 19, -1<<19 + 1, -1 << 23, -1<<23 + 1} {
		if v >= least && v <= most {
			l = append(l, v)
		}
	}
	return l, least, most
}

// rights are right instructions of all formats: all registers and operations, the edges of Imm.
func rights() []api.Instr {
	var l []api.Instr
	for f := range 4 {
		for uv := range 4 {
			u, v := uv&1 == 1, uv&2 == 2
			edges, _, _ := imms(f, u)
			for _, imm := range edges {
				for k := range 16 {
					i := api.Instr{F: f, U: u, V: v, A: k, Imm: imm}
					if f < 3 {
						i.B = (k*7 + 3) % 16
					}
					if f < 2 {
						i.Op = (k*11 + 5) % 16
					}
					if f == 0 || f == 3 && !u {
						i.C = (k*5 + 9) % 16
					}
					l = append(l, i)
				}
			}
		}
	}
	return l
}

// refused checks that no call takes an instruction.
func refused(t *testing.T, i api.Instr) {
	t.Helper()
	if w, err := Encode(i); w != 0 || err != api.ErrInstr {
		t.Errorf("Encode(%+v): %08x, %v", i, w, err)
	}
	if s := Text(i); s != "?" {
		t.Errorf("Text(%+v): %q", i, s)
	}
}

// P5.1: the chapter's example, and words by hand.
func TestWords(t *testing.T) {
	for _, x := range []struct {
		w uint32
		i api.Instr
	}{
		{0x41000005, api.Instr{F: 1, A: 1, Imm: 5}},
		{0x00000000, api.Instr{}},
		{0x3fff000f, api.Instr{F: 0, U: true, V: true, A: 15, B: 15, Op: 15, C: 15}},
		{0x01280003, api.Instr{F: 0, A: 1, B: 2, Op: 8, C: 3}},
		{0x7effffff, api.Instr{F: 1, U: true, V: true, A: 14, B: 15, Op: 15, Imm: 65535}},
		{0x5a980001, api.Instr{F: 1, V: true, A: 10, B: 9, Op: 8, Imm: 1}},
		{0x812fffc0, api.Instr{F: 2, A: 1, B: 2, Imm: -64}},
		{0xa1280000, api.Instr{F: 2, U: true, A: 1, B: 2, Imm: -1 << 19}},
		{0x9127ffff, api.Instr{F: 2, V: true, A: 1, B: 2, Imm: 1<<19 - 1}},
		{0xb12fffff, api.Instr{F: 2, U: true, V: true, A: 1, B: 2, Imm: -1}},
		{0xd700000c, api.Instr{F: 3, V: true, A: 7, C: 12}},
		{0xdf0000fc, api.Instr{F: 3, V: true, A: 15, Imm: 15, C: 12}},
		{0xc700000f, api.Instr{F: 3, A: 7, C: 15}},
		{0xe1ffffff, api.Instr{F: 3, U: true, A: 1, Imm: -1}},
		{0xf7800000, api.Instr{F: 3, U: true, V: true, A: 7, Imm: -1 << 23}},
		{0xe07fffff, api.Instr{F: 3, U: true, Imm: 1<<23 - 1}},
	} {
		if w, err := Encode(x.i); w != x.w || err != api.OK {
			t.Errorf("Encode(%+v): %08x, %v, want %08x", x.i, w, err, x.w)
		}
		if i, ok := Decode(x.w); i != x.i || !ok {
			t.Errorf("Decode(%08x): %+v, %v, want %+v", x.w, i, ok, x.i)
		}
	}
}

// P5.1, P5.3: all formats, against the plain word, there and back.
func TestEncodeDecode(t *testing.T) {
	for _, i := range rights() {
		w, err := Encode(i)
		if w != plain(i) || err != api.OK {
			t.Fatalf("Encode(%+v): %08x, %v, want %08x", i, w, err, plain(i))
		}
		if back, ok := Decode(w); back != i || !ok {
			t.Fatalf("Decode(%08x): %+v, %v, want %+v", w, back, ok, i)
		}
	}
}

// P5.1: ErrInstr of each field one past its range, and far past it.
func TestFieldsOutOfRange(t *testing.T) {
	for _, right := range rights() {
		for _, v := range []int{-1, 16, 17, 32, -16, 1 << 20, 1 << 32, 1<<32 + 1, math.MaxInt, math.MinInt} {
			i := right
			i.A = v
			refused(t, i)
			i = right
			i.B = v
			refused(t, i)
			i = right
			i.Op = v
			refused(t, i)
			i = right
			i.C = v
			refused(t, i)
		}
		for _, f := range []int{-1, 4, 5, 6, 7, 8, -4, 1 << 32, 1<<32 + right.F, math.MaxInt, math.MinInt} {
			i := right
			i.F = f
			refused(t, i)
		}
		_, least, most := imms(right.F, right.U)
		for _, v := range []int32{least - 1, most + 1, least - 16, most + 16, math.MinInt32, math.MaxInt32} {
			i := right
			i.Imm = v
			refused(t, i)
		}
	}
}

// P5.1: ErrInstr of a field that the format hasn't, if it isn't 0.
func TestFieldsThatAreNot(t *testing.T) {
	for _, right := range rights() {
		for v := 1; v < 16; v++ {
			i := right
			switch {
			case i.F == 0:
				i.Imm = int32(v)
			case i.F == 1:
				i.C = v
			case i.F == 2 && v < 8:
				i.Op = v
			case i.F == 2:
				i.C = v
			case v < 6:
				i.B = v
			case v < 11 || !i.U:
				i.Op = v
			default:
				i.C = v
			}
			refused(t, i)
		}
	}
}

// P5.1: false of each nought that isn't one, and of such alone.
func TestDecodeNoughts(t *testing.T) {
	chance := rand.New(rand.NewSource(51))
	for range 20000 {
		w := chance.Uint32()
		must := uint32(0)
		switch {
		case w>>30 == 0:
			must = 0x0000fff0
		case w>>30 == 3 && w>>29&1 == 0:
			must = 0x00ffff00
		}
		for b := range 32 {
			v := w &^ must
			if must>>b&1 == 1 {
				v |= 1 << b
			}
			i, ok := Decode(v)
			if ok != (v&must == 0) || !ok && i != (api.Instr{}) {
				t.Fatalf("Decode(%08x): %+v, %v", v, i, ok)
			}
			if back, err := Encode(i); ok && (back != v || err != api.OK) {
				t.Fatalf("Encode(Decode(%08x)): %08x, %v", v, back, err)
			}
		}
		if i, ok := Decode(w | must); must != 0 && (ok || i != (api.Instr{})) {
			t.Fatalf("Decode(%08x): %+v, %v", w|must, i, ok)
		}
	}
}

// P5.2: each name, with and without what U and V put behind.
func TestNames(t *testing.T) {
	operations := strings.Fields("MOV LSL ASR ROR AND ANN IOR XOR ADD SUB MUL DIV FAD FSB FML FDV")
	conditions := strings.Fields("MI EQ CS VS LS LT LE - PL NE CC VC HI GE GT NV")
	behind := map[[2]bool]string{{false, false}: "", {true, false}: "'", {false, true}: "#", {true, true}: "'#"}
	memory := map[[2]bool]string{{false, false}: "LDR", {true, false}: "STR", {false, true}: "LDRB", {true, true}: "STRB"}
	for uv := range 4 {
		u, v := uv&1 == 1, uv&2 == 2
		for k := range 16 {
			check := func(i api.Instr, want string) {
				t.Helper()
				i.U, i.V = u, v
				if s := Text(i); s != want {
					t.Errorf("Text(%+v): %q, want %q", i, s, want)
				}
			}
			n := strconv.Itoa(k)
			check(api.Instr{F: 0, A: k, B: 2, Op: k, C: 3}, operations[k]+behind[[2]bool{u, v}]+" R"+n+", R2, R3")
			check(api.Instr{F: 1, A: 15, B: k, Op: k, Imm: 60000}, operations[k]+behind[[2]bool{u, v}]+" R15, R"+n+", 60000")
			check(api.Instr{F: 2, A: k, B: 10, Imm: int32(k) - 8}, memory[[2]bool{u, v}]+" R"+n+", R10, "+strconv.Itoa(k-8))
			name := "B"
			if v {
				name = "BL"
			}
			if k != 7 {
				name += conditions[k]
			}
			if u {
				check(api.Instr{F: 3, A: k, Imm: int32(k)*1000 - 9000}, name+" "+strconv.Itoa(k*1000-9000))
			} else {
				check(api.Instr{F: 3, A: k, C: k, Imm: int32(15 - k)}, name+" R"+n+", "+strconv.Itoa(15-k))
			}
		}
	}
}

// P5.2: texts by hand.
func TestTexts(t *testing.T) {
	for _, x := range []struct {
		i    api.Instr
		want string
	}{
		{api.Instr{F: 1, A: 1, Imm: 5}, "MOV R1, R0, 5"},
		{api.Instr{}, "MOV R0, R0, R0"},
		{api.Instr{F: 0, U: true, A: 2}, "MOV' R2, R0, R0"},
		{api.Instr{F: 1, U: true, V: true, A: 2, Op: 9, Imm: 65535}, "SUB'# R2, R0, 65535"},
		{api.Instr{F: 2, A: 1, B: 2, Imm: -64}, "LDR R1, R2, -64"},
		{api.Instr{F: 2, U: true, V: true, A: 1, B: 2, Imm: -1 << 19}, "STRB R1, R2, -524288"},
		{api.Instr{F: 3, V: true, A: 7, C: 12}, "BL R12, 0"},
		{api.Instr{F: 3, A: 7, C: 15}, "B R15, 0"},
		{api.Instr{F: 3, V: true, A: 4, C: 12, Imm: 9}, "BLLS R12, 9"},
		{api.Instr{F: 3, U: true, A: 1, Imm: -1 << 23}, "BEQ -8388608"},
		{api.Instr{F: 3, U: true, V: true, A: 15, Imm: 0}, "BLNV 0"},
		{api.Instr{F: 4}, "?"},
	} {
		if s := Text(x.i); s != x.want {
			t.Errorf("Text(%+v): %q, want %q", x.i, s, x.want)
		}
	}
}
