package port

import (
	"math"
	"math/rand"
	"slices"
	"strings"
	"testing"
)

// fill offers all of s.
func fill(t *testing.T, p *Port, s string) {
	t.Helper()
	for i := range len(s) {
		if !p.Offer(s[i]) {
			t.Fatalf("Offer(%q): no", s[i])
		}
	}
}

// empty polls all that there is.
func empty(p *Port) string {
	var b []byte
	for {
		c, ok := p.Poll()
		if !ok {
			return string(b)
		}
		b = append(b, c)
	}
}

// has checks how many there are, and whether it is closed.
func has(t *testing.T, p *Port, n int, closed bool) {
	t.Helper()
	if got, is := p.State(); got != n || is != closed {
		t.Errorf("State: %d, %v, want %d, %v", got, is, n, closed)
	}
}

// P10.1: room from 1 to 4096.
func TestRoom(t *testing.T) {
	for _, x := range []struct{ room, want int }{{1, 1}, {2, 2}, {0, 1}, {-1, 1}, {math.MinInt, 1}, {4095, 4095}, {4096, 4096}, {4097, 4096}, {math.MaxInt, 4096}} {
		p := New(x.room)
		has(t, p, 0, false)
		fill(t, p, strings.Repeat("x", x.want))
		if p.Offer('y') {
			t.Errorf("%d: more than %d", x.room, x.want)
		}
		has(t, p, x.want, false)
		if s := empty(p); s != strings.Repeat("x", x.want) {
			t.Errorf("%d: %d", x.room, len(s))
		}
	}
}

// P10.1: what is there goes in order; nothing of an empty one.
func TestOfferPoll(t *testing.T) {
	p := New(3)
	if c, ok := p.Poll(); c != 0 || ok {
		t.Errorf("Poll: %q, %v", c, ok)
	}
	fill(t, p, "a\x00b")
	if p.Offer('c') {
		t.Error("no room, and yet")
	}
	for i, want := range "a\x00b" {
		if c, ok := p.Poll(); rune(c) != want || !ok {
			t.Errorf("%d: %q, %v", i, c, ok)
		}
		has(t, p, 2-i, false)
	}
	if c, ok := p.Poll(); c != 0 || ok {
		t.Errorf("Poll: %q, %v", c, ok)
	}
	fill(t, p, "\xff")
	if s := empty(p); s != "\xff" {
		t.Errorf("%q", s)
	}
}

// P10.1: what is in a closed one stays; nothing comes to it.
func TestClose(t *testing.T) {
	p := New(3)
	fill(t, p, "ab")
	p.Close()
	p.Close()
	has(t, p, 2, true)
	if p.Offer('c') {
		t.Error("closed, and yet")
	}
	if s := empty(p); s != "ab" {
		t.Errorf("%q", s)
	}
	if p.Offer('c') {
		t.Error("closed, and yet")
	}
	if c, ok := p.Poll(); c != 0 || ok {
		t.Errorf("Poll: %q, %v", c, ok)
	}
	has(t, p, 0, true)
}

// P10.2: the first port that has one.
func TestPick(t *testing.T) {
	a, b := New(2), New(2)
	if i, c, ok := Pick(); i != 0 || c != 0 || ok {
		t.Errorf("%d, %q, %v", i, c, ok)
	}
	if i, c, ok := Pick(nil, a, b, nil); i != 0 || c != 0 || ok {
		t.Errorf("%d, %q, %v", i, c, ok)
	}
	fill(t, b, "xy")
	fill(t, a, "z")
	b.Close()
	for _, want := range []struct {
		i int
		c byte
	}{{1, 'z'}, {3, 'x'}, {3, 'y'}} {
		if i, c, ok := Pick(nil, a, nil, b, b); i != want.i || c != want.c || !ok {
			t.Errorf("%d, %q, %v, want %+v", i, c, ok, want)
		}
	}
	if i, c, ok := Pick(b, a); i != 0 || c != 0 || ok {
		t.Errorf("%d, %q, %v", i, c, ok)
	}
}

// P10.2: as many as there are, as there is room for, as are asked for.
func TestPump(t *testing.T) {
	for _, x := range []struct {
		from, to       string
		room, most, n  int
		closeF, closeT bool
	}{
		{from: "abc", room: 9, most: 9, n: 3}, {from: "abc", room: 9, most: 3, n: 3}, {from: "abc", room: 9, most: 2, n: 2}, {from: "abc", room: 9, most: 0, n: 0},
		{from: "abc", room: 9, most: -1, n: 0}, {from: "abc", room: 9, most: math.MinInt, n: 0}, {from: "abc", room: 9, most: math.MaxInt, n: 3},
		{from: "abc", to: "x", room: 3, most: 9, n: 2}, {from: "abc", to: "xyz", room: 3, most: 9, n: 0}, {from: "abc", to: "x", room: 3, most: 1, n: 1},
		{from: "", to: "x", room: 3, most: 9, n: 0}, {from: "abc", room: 9, most: 9, n: 3, closeF: true}, {from: "abc", room: 9, most: 9, n: 0, closeT: true},
	} {
		from, to := New(5), New(x.room)
		fill(t, from, x.from)
		fill(t, to, x.to)
		if x.closeF {
			from.Close()
		}
		if x.closeT {
			to.Close()
		}
		if n := Pump(from, to, x.most); n != x.n {
			t.Errorf("%+v: %d", x, n)
		}
		has(t, from, len(x.from)-x.n, x.closeF)
		has(t, to, len(x.to)+x.n, x.closeT)
		if a, b := empty(from), empty(to); a != x.from[x.n:] || b != x.to+x.from[:x.n] {
			t.Errorf("%+v: %q, %q", x, a, b)
		}
	}
}

// P10.2: nil ones pump nothing.
func TestPumpNil(t *testing.T) {
	p := New(3)
	fill(t, p, "ab")
	if a, b, c := Pump(nil, p, 5), Pump(p, nil, 5), Pump(nil, nil, 5); a != 0 || b != 0 || c != 0 {
		t.Errorf("%d, %d, %d", a, b, c)
	}
	has(t, p, 2, false)
	if s := empty(p); s != "ab" {
		t.Errorf("%q", s)
	}
}

// P10.2: what goes round goes as often as there was at first, a full one's too.
func TestPumpRound(t *testing.T) {
	for _, x := range []struct {
		most, n int
		want    string
	}{{0, 0, "abc"}, {-5, 0, "abc"}, {1, 1, "bca"}, {2, 2, "cab"}, {3, 3, "abc"}, {4, 3, "abc"}, {math.MaxInt, 3, "abc"}} {
		for _, room := range []int{3, 4, 9} {
			p := New(room)
			fill(t, p, "abc")
			if n := Pump(p, p, x.most); n != x.n {
				t.Errorf("%d of room %d: %d", x.most, room, n)
			}
			has(t, p, 3, false)
			if s := empty(p); s != x.want {
				t.Errorf("%d of room %d: %q", x.most, room, s)
			}
		}
	}
	p := New(3)
	if n := Pump(p, p, 5); n != 0 {
		t.Errorf("empty: %d", n)
	}
	fill(t, p, "ab")
	p.Close()
	if n := Pump(p, p, 5); n != 0 {
		t.Errorf("closed: %d", n)
	}
	if s := empty(p); s != "ab" {
		t.Errorf("%q", s)
	}
}

// P10.3: by chance, against a list.
func TestOrder(t *testing.T) {
	chance := rand.New(rand.NewSource(101))
	for range 300 {
		room := 1 + chance.Intn(6)
		p, q := New(room), New(100)
		var inP, inQ []byte
		for range 100 {
			switch chance.Intn(4) {
			case 0, 1:
				c := byte(chance.Intn(256))
				if p.Offer(c) != (len(inP) < room) {
					t.Fatal("Offer")
				}
				if len(inP) < room {
					inP = append(inP, c)
				}
			case 2:
				c, ok := p.Poll()
				if ok != (len(inP) > 0) || ok && c != inP[0] {
					t.Fatal("Poll")
				}
				if ok {
					inP = inP[1:]
				}
			default:
				n := min(chance.Intn(4), len(inP), 100-len(inQ))
				if Pump(p, q, n) != n {
					t.Fatal("Pump")
				}
				inQ, inP = append(inQ, inP[:n]...), inP[n:]
			}
		}
		if s := empty(q); !slices.Equal([]byte(s), inQ) {
			t.Fatalf("%q, want %q", s, inQ)
		}
		if s := empty(p); !slices.Equal([]byte(s), inP) {
			t.Fatalf("%q, want %q", s, inP)
		}
	}
}
