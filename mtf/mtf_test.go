package mtf

import (
	"math"
	"math/rand"
	"slices"
	"testing"
)

// P19.1: the numbers at first, at the limits of n and past them.
func TestNew(t *testing.T) {
	for _, x := range []struct{ n, want int }{{0, 0}, {1, 1}, {3, 3}, {-1, 0}, {math.MinInt, 0}, {65535, 65535}, {65536, 65536}, {65537, 65536}, {math.MaxInt, 65536}} {
		l := New(x.n).All()
		if len(l) != x.want {
			t.Fatalf("%d: %d", x.n, len(l))
		}
		for i, v := range l {
			if v != i {
				t.Fatalf("%d: %d at %d", x.n, v, i)
			}
		}
	}
}

// P19.1: Rank moves what it is asked for.
func TestRank(t *testing.T) {
	l := New(3)
	for _, x := range []struct {
		x, rank int
		ok      bool
		all     []int
	}{
		{2, 2, true, []int{2, 0, 1}}, {2, 0, true, []int{2, 0, 1}}, {0, 1, true, []int{0, 2, 1}}, {1, 2, true, []int{1, 0, 2}}, {3, 0, false, []int{1, 0, 2}}, {-1, 0, false, []int{1, 0, 2}}, {math.MaxInt, 0, false, []int{1, 0, 2}}, {0, 1, true, []int{0, 1, 2}},
	} {
		rank, ok := l.Rank(x.x)
		if rank != x.rank || ok != x.ok || !slices.Equal(l.All(), x.all) {
			t.Errorf("Rank(%d): %d, %v, %v", x.x, rank, ok, l.All())
		}
	}
	if rank, ok := New(0).Rank(0); rank != 0 || ok {
		t.Error("of none")
	}
}

// P19.1: At moves what it tells.
func TestAt(t *testing.T) {
	l := New(4)
	for _, x := range []struct {
		rank, x int
		ok      bool
		all     []int
	}{
		{3, 3, true, []int{3, 0, 1, 2}}, {0, 3, true, []int{3, 0, 1, 2}}, {1, 0, true, []int{0, 3, 1, 2}}, {2, 1, true, []int{1, 0, 3, 2}}, {4, 0, false, []int{1, 0, 3, 2}}, {-1, 0, false, []int{1, 0, 3, 2}}, {math.MinInt, 0, false, []int{1, 0, 3, 2}},
	} {
		v, ok := l.At(x.rank)
		if v != x.x || ok != x.ok || !slices.Equal(l.All(), x.all) {
			t.Errorf("At(%d): %d, %v, %v", x.rank, v, ok, l.All())
		}
	}
	if v, ok := New(0).At(0); v != 0 || ok {
		t.Error("of none")
	}
}

// P19.1: what All tells is new memory.
func TestAll(t *testing.T) {
	l := New(3)
	a := l.All()
	a[0] = 9
	_ = append(a[:1], 8)
	if !slices.Equal(l.All(), []int{0, 1, 2}) {
		t.Errorf("%v", l.All())
	}
	l.Rank(2)
	if a[2] != 2 {
		t.Error("changed")
	}
}

// P19.2: At of each Rank is the number again, and both lists stand alike.
func TestBack(t *testing.T) {
	r := rand.New(rand.NewSource(1))
	for _, n := range []int{1, 2, 7, 300, 65536} {
		to, back := New(n), New(n)
		for range 200 {
			x := r.Intn(n)
			rank, ok := to.Rank(x)
			got, ok2 := back.At(rank)
			if !ok || !ok2 || got != x {
				t.Fatalf("%d of %d: %d, %d", x, n, rank, got)
			}
			if again, _ := to.Rank(x); again != 0 {
				t.Fatalf("%d of %d isn't first", x, n)
			}
			back.At(0)
		}
		if !slices.Equal(to.All(), back.All()) {
			t.Errorf("%d: unlike", n)
		}
	}
}
