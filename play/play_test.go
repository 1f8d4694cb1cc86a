package play

import (
	"math"
	"reflect"
	"runtime"
	"strings"
	"sync"
	"testing"
	"time"

	"wafer/api"
	"wafer/eval"
	"wafer/front"
	"wafer/loader"
	"wafer/need"
	"wafer/port"
	"wafer/recheck"
	"wafer/sample"
	"wafer/slim"
	"wafer/tree"
)

const (
	hello = "MODULE M; IMPORT In, Out; TYPE E = RECORD END; VAR c: CHAR; e: POINTER TO E; BEGIN Out.String(\"hi\"); In.Char(c); Out.Char(c); NEW(e); Out.Ln; NEW(e); Out.Int(-5) END M."
	ahead = "MODULE A; IMPORT Out; VAR v*: INTEGER; BEGIN v := 7; Out.Char(\"A\") END A."
	user  = "MODULE B; IMPORT A, Out; BEGIN Out.Int(A.v) END B."
)

// P28.1: runs on a target, and by the model.
func TestRun(t *testing.T) {
	for _, x := range []struct {
		srcs []string
		heap int
		want api.Result
	}{
		{[]string{hello}, 2, api.Result{Out: []byte("hix\n-5"), End: api.Halted}}, {[]string{hello}, 1, api.Result{Out: []byte("hix\n"), End: api.Trapped, Trap: api.TrapHeap}}, {[]string{hello}, 1 << 16, api.Result{Out: []byte("hix\n-5"), End: api.Halted}}, {[]string{ahead, user}, 0, api.Result{Out: []byte("A7"), End: api.Halted}}, {nil, 0, api.Result{End: api.Halted}},
	} {
		for target := range 2 {
			r, err := Run(target, []byte("xy"), x.heap, 10000, x.srcs...)
			if err != api.OK || string(r.Out) != string(x.want.Out) || r.End != x.want.End || r.Trap != x.want.Trap {
				t.Errorf("%d: %v, %v", target, r, err)
			}
		}
		a, b, err := Both([]byte("xy"), x.heap, 10000, x.srcs...)
		m, err2 := Model([]byte("xy"), x.heap, 100, x.srcs...)
		for _, r := range []api.Result{a, b, m} {
			if err != api.OK || err2 != api.OK || string(r.Out) != string(x.want.Out) || r.End != x.want.End || r.Trap != x.want.Trap {
				t.Errorf("%v, %v, %v", r, err, err2)
			}
		}
	}
	a, b, err := Both(nil, 0, 3, hello)
	if err != api.OK || a.End != api.Running || b.End != api.Running || len(a.Out)+len(b.Out) > 1 {
		t.Errorf("%v, %v, %v", a, b, err)
	}
}

// P28.1: each layer's errors.
func TestErrors(t *testing.T) {
	regs := "MODULE M; VAR i: INTEGER; BEGIN i := 1 + (1 + (1 + (1 + (1 + (1 + (1 + (1 + (1 + (1 + (1 + (1 + i))))))))))) END M."
	var many []string
	for i := range 17 {
		many = append(many, strings.ReplaceAll("MODULE Mx; END Mx.", "x", string(rune('a'+i))))
	}
	for what, x := range map[string]struct {
		srcs []string
		want api.Errno
	}{
		"lex": {[]string{"?"}, api.ErrLex}, "syntax": {[]string{ahead, "MODULE"}, api.ErrSyntax}, "import": {[]string{user, ahead}, api.ErrImport}, "twice": {[]string{ahead, ahead}, api.ErrTwice}, "registers": {[]string{regs}, api.ErrRegs}, "limit": {many, api.ErrLimit}, "type": {[]string{"MODULE M; BEGIN ASSERT(1) END M."}, api.ErrType}, "name": {[]string{"MODULE M; BEGIN x := 1 END M."}, api.ErrName}, "words": {[]string{"MODULE M; VAR a: ARRAY 1024 OF ARRAY 9 OF SET; END M.", "MODULE N; VAR a: ARRAY 1024 OF ARRAY 9 OF SET; END N."}, api.ErrWords},
	} {
		for target := -1; target < 3; target++ {
			if r, err := Run(target, nil, 0, 100, x.srcs...); err != x.want || !reflect.DeepEqual(r, api.Result{}) {
				t.Errorf("%s: Run: %v", what, err)
			}
		}
		if a, b, err := Both(nil, -1, 100, x.srcs...); err != x.want || !reflect.DeepEqual(a, api.Result{}) || !reflect.DeepEqual(b, api.Result{}) {
			t.Errorf("%s: Both: %v", what, err)
		}
		if r, err := Model(nil, 0, 100, x.srcs...); err != x.want || !reflect.DeepEqual(r, api.Result{}) {
			t.Errorf("%s: Model: %v", what, err)
		}
	}
	for _, x := range []struct{ target, heap int }{{2, 0}, {-1, 0}, {api.RISC, -1}, {api.Stack, 1<<16 + 1}, {api.RISC, math.MaxInt}} {
		if r, err := Run(x.target, nil, x.heap, 1000, hello); err != api.ErrSize || !reflect.DeepEqual(r, api.Result{}) {
			t.Errorf("%v: %v, %v", x, r, err)
		}
	}
	for _, heap := range []int{-1, 1<<16 + 1} {
		if a, b, err := Both(nil, heap, 1000, hello); err != api.ErrSize || !reflect.DeepEqual(a, api.Result{}) || !reflect.DeepEqual(b, api.Result{}) {
			t.Errorf("%d: %v", heap, err)
		}
	}
	if r, err := Model(nil, -1, 1000, hello); err != api.OK || r.Trap != api.TrapHeap {
		t.Errorf("%v, %v", r, err)
	}
	if r, err := Model(nil, math.MaxInt, 1000, hello); err != api.OK || r.End != api.Halted {
		t.Errorf("%v, %v", r, err)
	}
}

// P28.1: which results agree.
func TestAgree(t *testing.T) {
	run := func(s string) api.Result { return api.Result{Out: []byte(s)} }
	halt := func(s string) api.Result { return api.Result{Out: []byte(s), End: api.Halted} }
	trap := func(s string, n int) api.Result { return api.Result{Out: []byte(s), End: api.Trapped, Trap: n} }
	for i, x := range []struct {
		a, b api.Result
		want bool
	}{
		{api.Result{}, api.Result{}, true}, {run("ab"), run("ab"), true}, {run("ab"), run("abc"), true}, {run(""), run("abc"), true}, {run("ab"), run("ac"), false}, {run("b"), run("ab"), false},
		{halt("ab"), halt("ab"), true}, {halt("ab"), halt("abc"), false}, {halt("ab"), halt("ac"), false}, {halt("ab"), trap("ab", 1), false}, {trap("ab", 1), trap("ab", 1), true}, {trap("ab", 1), trap("ab", 2), false}, {trap("ab", 1), trap("a", 1), false}, {halt(""), halt(""), true},
		{halt("ab"), run("ab"), true}, {halt("ab"), run("a"), true}, {halt("ab"), run(""), true}, {halt("ab"), run("abc"), false}, {halt("ab"), run("b"), false}, {trap("ab", 3), run("a"), true}, {trap("ab", 3), run("abc"), false},
		{halt("ab"), api.Result{Out: []byte("ab"), Trap: 3}, true}, {api.Result{End: api.Halted, Trap: 1}, halt(""), false}, {api.Result{Out: []byte{}}, api.Result{Out: nil}, true},
	} {
		if Agree(x.a, x.b) != x.want || Agree(x.b, x.a) != x.want {
			t.Errorf("%d: %v, %v", i, x.a, x.b)
		}
	}
}

// P28.1: what was written goes through a port.
func TestEcho(t *testing.T) {
	r := api.Result{Out: []byte("hello")}
	take := func(p *port.Port) string {
		s := ""
		for c, ok := p.Poll(); ok; c, ok = p.Poll() {
			s += string(rune(c))
		}
		return s
	}
	p := port.New(8)
	if n := Echo(p, r); n != 5 {
		t.Errorf("%d", n)
	}
	if n := Echo(p, r); n != 3 {
		t.Errorf("%d", n)
	}
	if n := Echo(p, r); n != 0 {
		t.Errorf("%d", n)
	}
	if s := take(p); s != "hellohel" {
		t.Errorf("%q", s)
	}
	if n := Echo(p, api.Result{}); n != 0 {
		t.Errorf("%d", n)
	}
	p.Close()
	if n := Echo(p, r); n != 0 || take(p) != "" {
		t.Errorf("%d", n)
	}
	if n := Echo(nil, r); n != 0 {
		t.Errorf("%d", n)
	}
	if string(r.Out) != "hello" {
		t.Error("changed")
	}
}

// programs are sources that have no faults, with a number each.
func programs(t *testing.T, f func(i int, srcs []string)) {
	t.Helper()
	for i, srcs := range sample.Programs() {
		f(i, srcs)
	}
	for i := range 250 {
		srcs := []string{sample.Base, sample.Module(i)}
		if _, _, diags := loader.Compile(srcs...); len(diags) == 0 {
			f(i, srcs)
		}
	}
}

// P40.2, P40.6, P40.7: whatever fuel, both targets and the model agree; with enough each ends as the model says.
func TestWhole(t *testing.T) {
	ended := 0
	programs(t, func(i int, srcs []string) {
		in, heap := sample.Input(i), 60+i%100
		want, err := Model(in, heap, 20000, srcs...)
		if err != api.OK {
			t.Fatalf("%v of %s", err, srcs)
		}
		var all []api.Result
		for _, fuel := range []int{-1, 0, 10, 100 + i, 1000 + 7*i, 20000, 2000000} {
			a, b, err := Both(in, heap, fuel, srcs...)
			if err != api.OK || a.Trap == api.TrapFault || b.Trap == api.TrapFault || !Agree(a, want) || !Agree(b, want) {
				t.Fatalf("%v, %v, %v, want %v of %s", a, b, err, want, srcs)
			}
			all = append(all, a, b)
		}
		for _, a := range all {
			for _, b := range all {
				if !Agree(a, b) {
					t.Fatalf("%v, %v of %s", a, b, srcs)
				}
			}
		}
		if want.End != api.Running {
			ended++
			for _, r := range all[len(all)-2:] {
				if r.End != want.End {
					t.Fatalf("%v, want %v of %s", r, want, srcs)
				}
			}
		}
	})
	if ended < 300 {
		t.Errorf("%d", ended)
	}
}

// P40.1, P40.3, P40.5: what front tells is right, has one file, and is loaded, if need takes it.
func TestTrees(t *testing.T) {
	programs(t, func(i int, srcs []string) {
		var mods []api.Module
		var files [][]byte
		for _, src := range srcs {
			m, _ := front.Compile(src, mods...)
			if err := recheck.Check(m, mods...); err != api.OK {
				t.Fatalf("%v of %s", err, src)
			}
			b, err := slim.Encode(m)
			back, err2 := slim.Decode(b)
			again, err3 := slim.Encode(back)
			if err != api.OK || err2 != api.OK || err3 != api.OK || !tree.Same(back, m) || string(again) != string(b) {
				t.Fatalf("%v, %v, %v of %s", err, err2, err3, src)
			}
			file, _ := loader.Pack(m, mods...)
			mods, files = append(mods, m), append(files, file)
		}
		want := need.Check(mods...)
		if _, err := loader.Load(files...); err != want {
			t.Fatalf("%v, want %v of %s", err, want, srcs)
		}
	})
}

// P40.8: the same again tells the same, also at the same time; and no goroutine is left.
func TestAgain(t *testing.T) {
	before := runtime.NumGoroutine()
	in := []byte("xyz")
	a, b, _ := Both(in, 10, 3000, hello)
	var workers sync.WaitGroup
	for range 20 {
		workers.Go(func() {
			c, d, err := Both(in, 10, 3000, hello)
			m, _ := Model(in, 10, 3000, hello)
			if err != api.OK || !reflect.DeepEqual(a, c) || !reflect.DeepEqual(b, d) || !reflect.DeepEqual(m, a) {
				t.Errorf("%v, %v, %v", c, d, m)
			}
		})
	}
	workers.Wait()
	if string(in) != "xyz" {
		t.Error("changed")
	}
	for range 100 {
		if runtime.NumGoroutine() <= before {
			break
		}
		time.Sleep(time.Millisecond)
	}
	if n := runtime.NumGoroutine(); n > before {
		t.Errorf("%d goroutines, %d before", n, before)
	}
	l := []string{ahead, user}
	m := eval.Run(nil, 0, 100, sample.Trees(l...)...)
	if r, _ := Run(api.Stack, nil, 0, 1000, l...); !reflect.DeepEqual(r, m) || l[0] != ahead {
		t.Errorf("%v, %v", r, m)
	}
}
