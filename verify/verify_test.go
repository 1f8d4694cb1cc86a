package verify

import (
	"math"
	"math/rand"
	"slices"
	"testing"

	"wafer/api"
	"wafer/code"
)

// k tells an instruction with a K.
func k(op int, n int32) api.Code { return api.Code{Op: op, K: n} }

// ops tells instructions without Ks.
func ops(l ...int) []api.Code {
	var c []api.Code
	for _, op := range l {
		c = append(c, api.Code{Op: op})
	}
	return c
}

// join tells lists behind one another.
func join(l ...[]api.Code) []api.Code { return slices.Concat(l...) }

var halt = ops(api.Halt)

// P8.1: right lists, and the first wrong one of others.
func TestCheck(t *testing.T) {
	for i, x := range []struct {
		l    []api.Code
		at   int
		want api.Errno
	}{
		{nil, 0, api.ErrInstr},
		{[]api.Code{}, 0, api.ErrInstr},
		{halt, 0, api.OK},
		{ops(api.Leave), 0, api.OK},
		{[]api.Code{k(api.Jump, 0)}, 0, api.OK},
		{[]api.Code{k(api.Raise, 1)}, 0, api.OK},
		{[]api.Code{k(api.Raise, 15)}, 0, api.OK},
		{[]api.Code{k(api.Raise, 0)}, 0, api.ErrInstr},
		{[]api.Code{k(api.Raise, 16)}, 0, api.ErrInstr},
		{[]api.Code{k(api.Raise, -1)}, 0, api.ErrInstr},
		{[]api.Code{k(api.Raise, math.MinInt32)}, 0, api.ErrInstr},
		{[]api.Code{k(api.Raise, math.MaxInt32)}, 0, api.ErrInstr},
		{[]api.Code{k(api.Jump, 1)}, 0, api.ErrInstr},
		{[]api.Code{k(api.Jump, -1)}, 0, api.ErrInstr},
		{[]api.Code{k(api.Jump, 1), {}}, 0, api.OK},
		{[]api.Code{{}, k(api.Jump, 2)}, 1, api.ErrInstr},
		{[]api.Code{k(api.Zero, 1), {}}, 0, api.OK},
		{[]api.Code{k(api.Zero, 2), {}}, 0, api.ErrInstr},
		{[]api.Code{k(api.Zero, -1), {}}, 0, api.ErrInstr},
		{[]api.Code{k(api.CallTo, 1), {}}, 0, api.OK},
		{[]api.Code{k(api.CallTo, 0), {}}, 0, api.OK},
		{[]api.Code{k(api.CallTo, 2), {}}, 0, api.ErrInstr},
		{[]api.Code{k(api.CallTo, math.MinInt32), {}}, 0, api.ErrInstr},
		{[]api.Code{k(api.Enter, 0), {}}, 0, api.OK},
		{[]api.Code{k(api.Enter, 1<<20), {}}, 0, api.OK},
		{[]api.Code{k(api.Enter, 1<<20+1), {}}, 0, api.ErrInstr},
		{[]api.Code{k(api.Enter, -1), {}}, 0, api.ErrInstr},
		{[]api.Code{k(api.Move, 0), {}}, 0, api.OK},
		{[]api.Code{k(api.Move, 1<<20), {}}, 0, api.OK},
		{[]api.Code{k(api.Move, 1<<20+1), {}}, 0, api.ErrInstr},
		{[]api.Code{k(api.Move, -1), {}}, 0, api.ErrInstr},
		{[]api.Code{k(api.Push, math.MinInt32), k(api.Local, math.MinInt32), k(api.Local, math.MaxInt32), {}}, 0, api.OK},
		{[]api.Code{{}, {}, k(api.Dup, 1), k(api.Raise, 0), {}}, 2, api.ErrInstr},
		{[]api.Code{{}, k(api.Raise, 99), {Op: -1}, {Op: api.Dup}}, 1, api.ErrInstr},
		{[]api.Code{{}, {Op: api.Ops}, {}}, 1, api.ErrInstr},
		{[]api.Code{{Op: math.MaxInt}, {}}, 0, api.ErrInstr},
		{[]api.Code{{}, {K: 1}}, 1, api.ErrInstr},
	} {
		if at, err := Check(x.l); at != x.at || err != x.want {
			t.Errorf("%d: Check(%v): %d, %v", i, x.l, at, err)
		}
	}
}

// P8.1: which operations may be the last one.
func TestLast(t *testing.T) {
	last := []int{api.Halt, api.Jump, api.Leave, api.Raise}
	for op := range api.Ops {
		c := api.Code{Op: op}
		if code.Has(op) {
			c.K = 1
		}
		at, err := Check([]api.Code{{}, c})
		if slices.Contains(last, op) {
			if at != 0 || err != api.OK {
				t.Errorf("%s: %d, %v", code.Text(c), at, err)
			}
		} else if at != 1 || err != api.ErrInstr {
			t.Errorf("%s: %d, %v", code.Text(c), at, err)
		}
	}
}

// pushes tells n times Push 0.
func pushes(n int) []api.Code { return slices.Repeat([]api.Code{k(api.Push, 0)}, n) }

// P8.2: heights by hand.
func TestHeights(t *testing.T) {
	for i, x := range []struct {
		l    []api.Code
		want []int
	}{
		{join(pushes(1), ops(api.Drop, api.Halt)), []int{0, 1, 0}},
		{halt, []int{0}},
		{ops(api.Halt, api.Drop, api.Halt), []int{0, -1, -1}},
		{ops(api.Leave), []int{0}},
		{[]api.Code{k(api.Raise, 3), {}}, []int{0, -1}},
		{[]api.Code{k(api.Jump, 2), {}, {}}, []int{0, -1, 0}},
		{[]api.Code{k(api.Jump, 0)}, []int{0}},
		{[]api.Code{k(api.CallTo, 2), {}, k(api.Push, 1), {}}, []int{0, 0, -1, -1}},
		{[]api.Code{k(api.Push, 1), k(api.Zero, 3), {}, k(api.Push, 1), {}}, []int{0, 1, 0, 0, 1}},
		{[]api.Code{k(api.Push, 1), k(api.Push, 1), k(api.Zero, 1), {}}, []int{0, 1, 2, 1}},
		{[]api.Code{k(api.Push, 1), k(api.Push, 1), k(api.Zero, 0), {}}, nil},
		{[]api.Code{k(api.Push, 1), k(api.Zero, 0), {}}, []int{0, 1, 0}},
		{[]api.Code{k(api.Push, 1), k(api.Jump, 0)}, nil},
		{[]api.Code{k(api.Push, 1), k(api.Zero, 3), k(api.Push, 2), {}}, nil},
		{ops(api.Drop, api.Halt), nil},
		{ops(api.Endc, api.CAdd, api.Halt), nil},
		{nil, nil},
		{pushes(3), nil},
		{join(ops(api.Getc), []api.Code{k(api.Enter, 5)}, ops(api.Putc, api.Leave)), []int{0, 1, 1, 0}},
	} {
		l, ok := Heights(x.l)
		if !slices.Equal(l, x.want) || ok != (x.want != nil) {
			t.Errorf("%d: Heights(%v): %v, %v, want %v", i, x.l, l, ok, x.want)
		}
	}
}

// P8.2: what each operation takes and leaves: as many as it takes are needed, and the height behind it.
func TestEffects(t *testing.T) {
	for _, x := range []struct {
		takes, leaves int
		ops           []int
	}{
		{0, 0, []int{api.CallTo, api.Enter}},
		{0, 1, []int{api.Push, api.Local, api.Getc, api.Endc}},
		{1, 0, []int{api.Drop, api.Zero, api.Putc}},
		{1, 1, []int{api.Load, api.CNeg, api.CInv}},
		{1, 2, []int{api.Dup}},
		{2, 0, []int{api.Store, api.Move}},
		{2, 1, []int{api.CAdd, api.CSub, api.CMul, api.CDiv, api.CMod, api.CAnd, api.COr, api.CXor, api.CLsl, api.CAsr, api.CRor, api.CEq, api.CLt, api.CLe}},
		{2, 2, []int{api.Swap}},
	} {
		for _, op := range x.ops {
			for n := range 5 {
				c := api.Code{Op: op}
				if op == api.Zero || op == api.CallTo {
					c.K = int32(n + 1)
				}
				l, ok := Heights(join(pushes(n), []api.Code{c}, halt))
				if ok != (n >= x.takes) {
					t.Errorf("%s of %d: %v", code.Text(c), n, ok)
				}
				if ok && l[n+1] != n-x.takes+x.leaves {
					t.Errorf("%s of %d: %v", code.Text(c), n, l)
				}
			}
		}
	}
}

// P8.2: at most 1000 operands.
func TestThousand(t *testing.T) {
	if l, ok := Heights(join(pushes(1000), halt)); !ok || len(l) != 1001 || l[1000] != 1000 {
		t.Errorf("1000: %v", ok)
	}
	for _, more := range [][]api.Code{pushes(1), ops(api.Dup), ops(api.Endc)} {
		if l, ok := Heights(join(pushes(1000), more, halt)); ok || l != nil {
			t.Errorf("1001: %v", ok)
		}
	}
	if _, ok := Heights(join(pushes(1000), ops(api.Swap, api.CAdd, api.Dup), halt)); !ok {
		t.Errorf("1000 again: %v", ok)
	}
	if l, ok := Heights(join(halt, pushes(2000), halt)); !ok || l[1500] != -1 {
		t.Errorf("not reached: %v", ok)
	}
}

// some tells a list by chance; most Ks are right.
func some(chance *rand.Rand) []api.Code {
	l := make([]api.Code, 1+chance.Intn(9))
	for i := range l {
		l[i].Op = []int{chance.Intn(api.Ops), api.Push, api.Jump, api.Zero, api.Getc}[chance.Intn(5)]
		if code.Has(l[i].Op) {
			l[i].K = int32(chance.Intn(len(l)))
		}
	}
	if chance.Intn(8) > 0 {
		l[len(l)-1] = api.Code{}
	}
	return l
}

// walk goes through l at will without calls, and tells whether an operand lacked, or a height wasn't as told.
func walk(chance *rand.Rand, l []api.Code, heights []int) bool {
	i, height := 0, 0
	for range 50 {
		if heights[i] != height {
			return false
		}
		takes, leaves := effect(l[i].Op)
		if height < takes {
			return false
		}
		height += leaves - takes
		switch l[i].Op {
		case api.Halt, api.Leave, api.Raise:
			return true
		case api.Jump:
			i = int(l[i].K)
		case api.Zero:
			i = []int{i + 1, int(l[i].K)}[chance.Intn(2)]
		default:
			i++
		}
	}
	return true
}

// P8.3: whichever way is gone, there are as many as told, and none lacks.
func TestNoneLacks(t *testing.T) {
	chance := rand.New(rand.NewSource(81))
	told := 0
	for range 60000 {
		l := some(chance)
		heights, ok := Heights(l)
		if !ok {
			if len(heights) != 0 {
				t.Fatalf("%v: false, and %v", l, heights)
			}
			continue
		}
		told++
		for range 5 {
			if !walk(chance, l, heights) {
				t.Fatalf("%v: %v", l, heights)
			}
		}
	}
	if told < 1000 {
		t.Errorf("only %d told", told)
	}
}

// P8.2: what is refused is refused for a way that is there: each way, gone on paper, agrees where Heights tells.
func TestAllWays(t *testing.T) {
	chance := rand.New(rand.NewSource(82))
	for range 60000 {
		l := some(chance)
		if _, err := Check(l); err != api.OK {
			continue
		}
		_, ok := Heights(l)
		if good := goodAll(l); ok != good {
			t.Fatalf("%v: %v", l, ok)
		}
	}
}

// goodAll goes on from each height that any instruction may have until nothing is new.
func goodAll(l []api.Code) bool {
	seen := map[[2]int]bool{{0, 0}: true}
	for todo := [][2]int{{0, 0}}; len(todo) > 0; todo = todo[1:] {
		i, height := todo[0][0], todo[0][1]
		takes, leaves := effect(l[i].Op)
		if height < takes || height > 20 {
			return false
		}
		var next []int
		switch l[i].Op {
		case api.Halt, api.Leave, api.Raise:
		case api.Jump:
			next = []int{int(l[i].K)}
		case api.Zero:
			next = []int{i + 1, int(l[i].K)}
		default:
			next = []int{i + 1}
		}
		for _, n := range next {
			if at := [2]int{n, height - takes + leaves}; !seen[at] {
				seen[at] = true
				todo = append(todo, at)
			}
		}
	}
	count := map[int]int{}
	for at := range seen {
		count[at[0]]++
		if count[at[0]] > 1 {
			return false
		}
	}
	return true
}

// P8.1, P8.2: what is handed in isn't changed.
func TestUnchanged(t *testing.T) {
	chance := rand.New(rand.NewSource(83))
	for range 2000 {
		l := append(some(chance), api.Code{Op: 77, K: 7}, api.Code{Op: 78, K: 8})
		old := slices.Clone(l)
		Check(l[:len(l)-2])
		a, _ := Heights(l[:len(l)-2])
		b, _ := Heights(l[:len(l)-2])
		if !slices.Equal(l, old) {
			t.Fatal("changed")
		}
		for i := range a {
			a[i] = 99
		}
		if slices.Contains(b, 99) {
			t.Fatal("kept")
		}
	}
}
