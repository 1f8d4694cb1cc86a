package slim

import (
	"math"

	"wafer/api"
	"wafer/bits"
	"wafer/dict"
	"wafer/mtf"
	"wafer/varint"
)

// Bits of numbers that are mostly small.
const (
	countBits = 2
	opBits    = 6
	stmtBits  = 5
	nameBits  = 6
	typeBits  = 4
)

const (
	maxTable = 4096 // names or types that are told by numbers; the others are told whole
	maxKept  = 256  // bytes of one that is
	maxVar   = 10   // bytes of a number of 64 bits
)

// codec goes through a tree: it writes what it is handed, or reads, and hands back, what was written.
// So there is but one description of how a tree looks.
type codec struct {
	w     *bits.Writer
	r     *bits.Reader // nil: it writes
	names table
	types table
}

// table is what was met lately.
type table struct {
	all  *dict.Dict
	near *mtf.List
	bits int
}

func newTable(bits int, seed ...string) table {
	return table{all: dict.New(maxTable, seed...), near: mtf.New(maxTable), bits: bits}
}

func newCodec() *codec {
	var basic []string
	for form := range api.Array {
		basic = append(basic, string(putType(nil, api.Type{Form: form})))
	}
	return &codec{names: newTable(nameBits, "In", "Out"), types: newTable(typeBits, basic...)}
}

func newWriter() *codec {
	c := newCodec()
	c.w = bits.NewWriter()
	return c
}

func newReader(b []byte) *codec {
	c := newCodec()
	c.r = bits.NewReader(b)
	return c
}

// gaveUp is what a codec panics with.
type gaveUp struct{}

// check gives up, unless something is so.
func check(is bool) {
	if !is {
		panic(gaveUp{})
	}
}

// bits writes or reads v's lowest n bits.
func (c *codec) bits(v uint64, n int) uint64 {
	if c.r == nil {
		c.w.Put(v, n)
		return v
	}
	v, ok := c.r.Get(n)
	check(ok)
	return v
}

// flag writes or reads whether something is so.
func (c *codec) flag(is bool) bool {
	v := uint64(0)
	if is {
		v = 1
	}
	return c.bits(v, 1) == 1
}

// number writes or reads a number of 64 bits.
func (c *codec) number(v uint64) uint64 {
	if c.r == nil {
		for _, one := range varint.Put(nil, v) {
			c.w.Put(uint64(one), 8)
		}
		return v
	}
	v, _, ok := varint.Read(c.sevens())
	check(ok)
	return v
}

// sevens reads the bytes of a number, as far as they say that more follow.
func (c *codec) sevens() []byte {
	var b []byte
	for len(b) < maxVar {
		one := byte(c.bits(0, 8))
		b = append(b, one)
		if one < 0x80 {
			break
		}
	}
	return b
}

// small writes or reads a number that mostly has at most n bits, and never more than 31.
func (c *codec) small(v, n int) int {
	check(v >= 0 && v <= math.MaxInt32)
	most := 1<<n - 1
	first := int(c.bits(uint64(min(v, most)), n))
	if first < most {
		return first
	}
	rest := c.number(uint64(max(v-most, 0)))
	check(rest <= uint64(math.MaxInt32-most))
	return most + int(rest)
}

// signed writes or reads a number of 32 bits.
func (c *codec) signed(v int32) int32 {
	if !c.flag(v != 0) {
		return 0
	}
	if c.r == nil {
		for _, one := range varint.PutInt(nil, int64(v)) {
			c.w.Put(uint64(one), 8)
		}
		return v
	}
	wide, _, ok := varint.ReadInt(c.sevens())
	check(ok && wide >= math.MinInt32 && wide <= math.MaxInt32)
	return int32(wide)
}

// whole writes or reads a text, byte by byte.
func (c *codec) whole(s string) string {
	n := c.number(uint64(len(s)))
	if c.r == nil {
		for i := range len(s) {
			c.w.Put(uint64(s[i]), 8)
		}
		return s
	}
	check(n <= uint64(c.r.Left()/8))
	var b []byte
	for range n {
		b = append(b, byte(c.bits(0, 8)))
	}
	return string(b)
}

// entry writes or reads a text by where it stands among those that were met lately, or whole.
func (c *codec) entry(t *table, s string) string {
	rank := 0
	if c.r == nil {
		if i, there := t.all.Find(s); there {
			rank, _ = t.near.Rank(i)
			rank++
		}
	}
	rank = c.small(rank, t.bits)
	if rank == 0 {
		s = c.whole(s)
		if len(s) <= maxKept {
			if i, _, ok := t.all.Put(s); ok {
				t.near.Rank(i)
			}
		}
		return s
	}
	if c.r != nil {
		i, ok := t.near.At(rank - 1)
		check(ok)
		s, ok = t.all.Get(i)
		check(ok)
	}
	return s
}

// list writes or reads a list, one by one.
func list[T any](c *codec, l []T, one func(T) T) []T {
	n := c.small(len(l), countBits)
	check(n <= api.MaxList)
	var read []T
	for i := range n {
		if c.r == nil {
			one(l[i])
		} else {
			var v T
			read = append(read, one(v))
		}
	}
	return read
}
