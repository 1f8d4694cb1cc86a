package order

import (
	"slices"
	"strconv"
	"strings"
	"testing"

	"wafer/api"
)

// mod tells a module by its name and imports, with spaces between.
func mod(s string) api.Module {
	l := strings.Fields(s)
	return api.Module{Name: l[0], Imports: l[1:]}
}

// mods tells modules, with commas between.
func mods(s string) []api.Module {
	var l []api.Module
	for _, one := range strings.Split(s, ",") {
		l = append(l, mod(one))
	}
	return l
}

// P24.1: orders and errors.
func TestModules(t *testing.T) {
	var many []string
	for i := range 17 {
		many = append(many, "M"+strconv.Itoa(i))
	}
	for _, x := range []struct {
		s    string
		want []int
		err  api.Errno
	}{
		{"A", []int{0}, api.OK}, {"A B,B", []int{1, 0}, api.OK}, {"A,B", []int{0, 1}, api.OK}, {"A,B A", []int{0, 1}, api.OK}, {"A C B,B,C", []int{2, 1, 0}, api.OK}, {"A B C,B,C", []int{1, 2, 0}, api.OK}, {"A B,B C,C D,D", []int{3, 2, 1, 0}, api.OK}, {"A D,B,C A,D B", []int{1, 3, 0, 2}, api.OK}, {"A B C,B D,C D,D", []int{3, 1, 2, 0}, api.OK}, {"A B B,B", []int{1, 0}, api.OK},
		{"A In Out", []int{0}, api.OK}, {"A In B Out,B Out", []int{1, 0}, api.OK}, {"A Out,Out A", []int{0, 1}, api.OK},
		{"A B", nil, api.ErrImport}, {"A,B C", nil, api.ErrImport}, {"A A", nil, api.ErrCycle}, {"A B,B A", nil, api.ErrCycle}, {"A B,B C,C B", nil, api.ErrCycle}, {"A,B,C D,D E,E C", nil, api.ErrCycle}, {"A in", nil, api.ErrImport},
		{"A,A", nil, api.ErrTwice}, {"A,B Q,A", nil, api.ErrTwice}, {"A A,A A", nil, api.ErrTwice}, {"A B,B A Q", nil, api.ErrImport},
		{strings.Join(many[:16], ","), []int{0, 1, 2, 3, 4, 5, 6, 7, 8, 9, 10, 11, 12, 13, 14, 15}, api.OK}, {strings.Join(many, ","), nil, api.ErrLimit}, {strings.Repeat("A A,", 16) + "A Q", nil, api.ErrLimit},
	} {
		l := mods(x.s)
		got, err := Modules(l...)
		if err != x.err || !slices.Equal(got, x.want) {
			t.Errorf("%s: %v, %v, want %v, %v", x.s, got, err, x.want, x.err)
		}
	}
	if l, err := Modules(); len(l) != 0 || err != api.OK {
		t.Errorf("none: %v, %v", l, err)
	}
}

// P24.1: what a module needs.
func TestNeeds(t *testing.T) {
	for s, want := range map[string]string{"A": "", "A In Out": "", "A In B Out C": "B C", "A B C B": "B C B", "A A in out": "A in out"} {
		m := mod(s)
		got := Needs(m)
		if strings.Join(got, " ") != want {
			t.Errorf("%s: %v", s, got)
		}
		if len(got) > 0 {
			got[0] = "changed"
		}
		if strings.Join(m.Imports, " ") != strings.TrimSpace(s[1:]) {
			t.Errorf("%s: changed", s)
		}
	}
}

// P24.2: whoever is needed comes first, whatever the order of the modules.
func TestFirst(t *testing.T) {
	l := mods("A B C,B D,C E D,D,E D F,F")
	for range 720 {
		for i := len(l) - 1; i > 0; i-- {
			j := (i * 7) % (i + 1)
			l[i], l[j] = l[j], l[i]
		}
		got, err := Modules(l...)
		if err != api.OK || len(got) != len(l) {
			t.Fatalf("%v, %v", got, err)
		}
		at := map[string]int{}
		for i, n := range got {
			at[l[n].Name] = i
		}
		for _, m := range l {
			for _, name := range Needs(m) {
				if at[name] >= at[m.Name] {
					t.Fatalf("%s behind %s: %v", name, m.Name, got)
				}
			}
		}
		l = append(l[1:], l[0])
	}
}
