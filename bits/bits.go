// Package bits: Bits in a row: see doc/01-bits.md.
package bits

// Sizes, in bits.
const (
	byteBits = 8
	wordBits = 64
)

// Writer gathers bits.
type Writer struct {
	b    []byte // the last one may be partly filled; what isn't filled is noughts
	size int    // in bits
}

// NewWriter tells a writer without bits.
func NewWriter() *Writer { return &Writer{} }

// Put lays v's lowest n bits behind all others, the highest of them first.
func (w *Writer) Put(v uint64, n int) bool {
	if !sizeFits(n) {
		return false
	}
	for n > 0 {
		used := w.size % byteBits
		if used == 0 {
			w.b = append(w.b, 0)
		}
		free := byteBits - used
		k := min(free, n)
		n -= k
		w.b[len(w.b)-1] |= byte(lowest(v>>n, k) << (free - k))
		w.size += k
	}
	return true
}

// Len tells how many bits have been put.
func (w *Writer) Len() int { return w.size }

// Bytes tells the bits, eight a byte, the first one highest.
func (w *Writer) Bytes() []byte { return copied(w.b) }

// Reader hands bits out.
type Reader struct {
	b  []byte
	at int // the next bit
}

// NewReader tells a reader of b's bits.
func NewReader(b []byte) *Reader { return &Reader{b: copied(b)} }

// Get takes the next n bits, as a number.
func (r *Reader) Get(n int) (uint64, bool) {
	if !sizeFits(n) || n > r.Left() {
		return 0, false
	}
	var v uint64
	for n > 0 {
		left := byteBits - r.at%byteBits
		k := min(left, n)
		n -= k
		v = v<<k | lowest(uint64(r.b[r.at/byteBits])>>(left-k), k)
		r.at += k
	}
	return v, true
}

// Left tells how many bits are left.
func (r *Reader) Left() int { return len(r.b)*byteBits - r.at }

// Rest tells whether all that is left is what fills up a byte.
func (r *Reader) Rest() bool {
	left := r.Left()
	if left >= byteBits {
		return false
	}
	// Without bits left there may be no byte to look at.
	return left == 0 || lowest(uint64(r.b[len(r.b)-1]), left) == 0
}

// sizeFits tells whether so many bits may be put or got at once.
func sizeFits(n int) bool { return n >= 0 && n <= wordBits }

// lowest tells v's lowest k bits (k below 64).
func lowest(v uint64, k int) uint64 { return v & (1<<k - 1) }

// copied tells b in new memory, so that nobody's changes are seen by another.
func copied(b []byte) []byte { return append([]byte(nil), b...) }
