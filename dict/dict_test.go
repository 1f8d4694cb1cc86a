package dict

import (
	"math"
	"strconv"
	"testing"
)

// has checks that d has just these names.
func has(t *testing.T, d *Dict, names ...string) {
	t.Helper()
	if d.Len() != len(names) {
		t.Errorf("%d, want %d", d.Len(), len(names))
	}
	for i, s := range names {
		if got, ok := d.Get(i); got != s || !ok {
			t.Errorf("Get(%d): %q, %v", i, got, ok)
		}
		if got, ok := d.Find(s); got != i || !ok {
			t.Errorf("Find(%q): %d, %v", s, got, ok)
		}
	}
	for _, i := range []int{-1, len(names), math.MaxInt, math.MinInt} {
		if s, ok := d.Get(i); s != "" || ok {
			t.Errorf("Get(%d): %q, %v", i, s, ok)
		}
	}
	if i, ok := d.Find("isn't there"); i != 0 || ok {
		t.Error("Find")
	}
}

// put checks what Put tells.
func put(t *testing.T, d *Dict, s string, i int, isNew, ok bool) {
	t.Helper()
	if a, b, c := d.Put(s); a != i || b != isNew || c != ok {
		t.Errorf("Put(%q): %d, %v, %v", s, a, b, c)
	}
}

// P20.1: names get numbers as they come.
func TestPut(t *testing.T) {
	d := New(3)
	has(t, d)
	put(t, d, "a", 0, true, true)
	put(t, d, "b", 1, true, true)
	put(t, d, "a", 0, false, true)
	put(t, d, "", 2, true, true)
	has(t, d, "a", "b", "")
	put(t, d, "c", 0, false, false)
	put(t, d, "b", 1, false, true)
	put(t, d, "A", 0, false, false)
	has(t, d, "a", "b", "")
}

// P20.1: seeds, each once, as many as there is room for.
func TestSeed(t *testing.T) {
	d := New(4, "x", "y", "x", "z")
	has(t, d, "x", "y", "z")
	put(t, d, "y", 1, false, true)
	put(t, d, "w", 3, true, true)
	put(t, d, "v", 0, false, false)
	has(t, New(2, "a", "a", "b", "c", "a"), "a", "b")
	has(t, New(0, "a"))
	has(t, New(-5, "a"))
	put(t, New(math.MinInt), "a", 0, false, false)
	seed := []string{"p", "q"}
	d = New(9, seed...)
	seed[0] = "changed"
	has(t, d, "p", "q")
}

// P20.1: at most 65536 names, whatever is asked for.
func TestMost(t *testing.T) {
	for _, most := range []int{65535, 65536, 65537, math.MaxInt} {
		d := New(most)
		n := min(most, 65536)
		for i := range n {
			if got, isNew, ok := d.Put(strconv.Itoa(i)); got != i || !isNew || !ok {
				t.Fatalf("%d: %d", i, got)
			}
		}
		put(t, d, "more", 0, false, false)
		put(t, d, "7", 7, false, true)
		if d.Len() != n {
			t.Errorf("%d", d.Len())
		}
	}
}

// P20.2: a name has one number, whatever comes between.
func TestOne(t *testing.T) {
	d := New(100, "seed")
	for i := range 300 {
		s := strconv.Itoa(i * 7 % 60)
		a, _, ok := d.Put(s)
		b, there := d.Find(s)
		back, _ := d.Get(a)
		if !ok || !there || a != b || back != s {
			t.Fatalf("%q: %d, %d, %q", s, a, b, back)
		}
	}
	if d.Len() != 61 {
		t.Errorf("%d", d.Len())
	}
}
