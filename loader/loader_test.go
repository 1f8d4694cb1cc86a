package loader

import (
	"bytes"
	"math"
	"math/rand"
	"reflect"
	"strings"
	"testing"

	"wafer/api"
	"wafer/box"
	"wafer/eval"
	"wafer/front"
	"wafer/need"
	"wafer/order"
	"wafer/recheck"
	"wafer/sample"
	"wafer/slim"
	"wafer/tree"
	"wafer/varint"
)

// pack tells the file of a module that has one.
func pack(t *testing.T, m api.Module, mods ...api.Module) []byte {
	t.Helper()
	b, err := Pack(m, mods...)
	if err != api.OK {
		t.Fatalf("%v", err)
	}
	return b
}

// loaded checks what Load tells of files.
func loaded(t *testing.T, what string, want api.Errno, files ...[]byte) *Program {
	t.Helper()
	var before [][]byte
	for _, b := range files {
		before = append(before, bytes.Clone(b))
	}
	p, err := Load(files...)
	if err != want || (p != nil) != (err == api.OK) {
		t.Fatalf("%s: %v, want %v", what, err, want)
	}
	for i, b := range files {
		if !bytes.Equal(b, before[i]) {
			t.Fatalf("%s: changed", what)
		}
	}
	return p
}

const (
	first  = "MODULE A; IMPORT Out; CONST k* = 3; TYPE R* = RECORD x: INTEGER END; VAR v*: INTEGER; hidden: CHAR; PROCEDURE p*(n: INTEGER): INTEGER; RETURN n + v END p; BEGIN v := k; Out.Char(\"A\") END A."
	second = "MODULE B; IMPORT A, In, Out; TYPE P* = POINTER TO A.R; VAR p*: P; i: INTEGER; ch: CHAR; BEGIN NEW(p); p.x := A.p(4); i := p.x; Out.Int(i); WHILE ~In.Eof() DO In.Char(ch); Out.Char(ch) END END B."
	third  = "MODULE C; IMPORT Out, B, A; BEGIN Out.Int(B.p.x + A.v) END C."
)

// sources are three modules.
func sources() []string {
	return []string{first, second, third}
}

// P27.1: how a file looks.
func TestPack(t *testing.T) {
	l := sample.Trees(sources()...)
	for i, m := range l {
		tree, _ := slim.Encode(m)
		want := append(varint.Put(nil, uint64(len(tree))), tree...)
		for _, n := range slim.Imports(m, l[:i]...) {
			for shift := 56; shift >= 0; shift -= 8 {
				want = append(want, byte(n>>shift))
			}
		}
		k, payload, err := box.Open(pack(t, m, l[:i]...))
		if k != 2 || err != api.OK || !bytes.Equal(payload, want) {
			t.Errorf("%d: %d, %v", i, k, err)
		}
	}
	if b, err := Pack(api.Module{Name: strings.Repeat("x", 66)}); err != api.ErrLimit || len(b) > 0 {
		t.Errorf("%v", err)
	}
	if b, err := Pack(api.Module{Body: []api.Stmt{{Op: -1}}}); err != api.ErrLimit || len(b) > 0 {
		t.Errorf("%v", err)
	}
	great := api.Module{}
	r := rand.New(rand.NewSource(1))
	for range 150 {
		s := api.Stmt{}
		for range 1000 {
			text := make([]byte, 120)
			r.Read(text)
			s.X = append(s.X, api.Expr{S: string(text)})
		}
		great.Body = append(great.Body, s)
	}
	if b, err := Pack(great); err != api.ErrSize || len(b) > 0 {
		t.Errorf("%v", err)
	}
}

// P27.1: sources into files.
func TestCompile(t *testing.T) {
	srcs := sources()
	l := sample.Trees(srcs...)
	files, which, diags := Compile(srcs...)
	if len(files) != 3 || which != 0 || len(diags) != 0 {
		t.Fatalf("%d, %d, %v", len(files), which, diags)
	}
	for i, b := range files {
		if !bytes.Equal(b, pack(t, l[i], l[:i]...)) {
			t.Errorf("%d", i)
		}
	}
	for _, x := range []struct {
		srcs  []string
		which int
		want  api.Diag
	}{
		{[]string{srcs[0], "MODULE B; x END B."}, 1, api.Diag{Pos: 10, Err: api.ErrSyntax}}, {[]string{srcs[1]}, 0, api.Diag{Pos: 17, Err: api.ErrImport}}, {[]string{srcs[0], srcs[1], "?", "?"}, 2, api.Diag{Pos: 0, Err: api.ErrLex}}, {[]string{srcs[0], srcs[1], srcs[0]}, 2, api.Diag{Err: api.ErrTwice}}, {[]string{srcs[0], srcs[0], "?"}, 1, api.Diag{Err: api.ErrTwice}}, {[]string{srcs[0], "MODULE A; IMPORT A; END A."}, 1, api.Diag{Pos: 17, Err: api.ErrImport}},
	} {
		files, which, diags := Compile(x.srcs...)
		if len(files) != 0 || which != x.which || len(diags) != 1 || diags[0] != x.want {
			t.Errorf("%d, %d, %v, want %d, %v", len(files), which, diags, x.which, x.want)
		}
	}
	if files, which, diags := Compile(); len(files) != 0 || which != 0 || len(diags) != 0 {
		t.Error("none")
	}
}

// P27.2: what is loaded, in whatever order, is run on both targets.
func TestLoad(t *testing.T) {
	files, _, _ := Compile(sources()...)
	l := sample.Trees(sources()...)
	want := eval.Run([]byte("xy"), 10, 1000, l...)
	if string(want.Out) != "A7xy10" {
		t.Fatalf("%q", want.Out)
	}
	for _, o := range [][]int{{0, 1, 2}, {2, 1, 0}, {1, 2, 0}, {2, 0, 1}} {
		p := loaded(t, "order", api.OK, files[o[0]], files[o[1]], files[o[2]])
		for i, m := range p.Modules() {
			if !tree.Same(m, l[i]) {
				t.Errorf("%v: %d is %s", o, i, m.Name)
			}
		}
		for _, target := range []int{api.RISC, api.Stack} {
			r, err := p.Run(target, []byte("xy"), 10, 100000)
			if err != api.OK || !reflect.DeepEqual(r, want) {
				t.Errorf("%v, %d: %v, %v", o, target, r, err)
			}
		}
	}
	p := loaded(t, "none", api.OK)
	if r, err := p.Run(api.RISC, nil, 0, 100); len(p.Modules()) != 0 || r.End != api.Halted || err != api.OK {
		t.Errorf("%v, %v", r, err)
	}
}

// P27.2: targets and heaps.
func TestRun(t *testing.T) {
	files, _, _ := Compile("MODULE M; IMPORT Out; TYPE E = RECORD END; VAR e: POINTER TO E; BEGIN Out.Char(\"m\"); NEW(e) END M.")
	p := loaded(t, "M", api.OK, files...)
	for _, x := range []struct {
		target, heap, fuel int
		err                api.Errno
		out                string
		end, trap          int
	}{
		{api.RISC, 1, 1000, api.OK, "m", api.Halted, 0}, {api.Stack, 1, 1000, api.OK, "m", api.Halted, 0}, {api.RISC, 0, 1000, api.OK, "m", api.Trapped, api.TrapHeap}, {api.Stack, 0, 1000, api.OK, "m", api.Trapped, api.TrapHeap}, {api.RISC, 1 << 16, 1000, api.OK, "m", api.Halted, 0}, {api.Stack, 1 << 16, 1000, api.OK, "m", api.Halted, 0},
		{api.RISC, 1, 0, api.OK, "", api.Running, 0}, {api.Stack, 1, -1, api.OK, "", api.Running, 0}, {api.RISC, 1, 1, api.OK, "", api.Running, 0},
		{2, 1, 1000, api.ErrSize, "", 0, 0}, {-1, 1, 1000, api.ErrSize, "", 0, 0}, {api.RISC, -1, 1000, api.ErrSize, "", 0, 0}, {api.Stack, -1, 1000, api.ErrSize, "", 0, 0}, {api.RISC, 1<<16 + 1, 1000, api.ErrSize, "", 0, 0}, {api.Stack, math.MaxInt, 1000, api.ErrSize, "", 0, 0}, {api.RISC, math.MinInt, 1000, api.ErrSize, "", 0, 0},
	} {
		r, err := p.Run(x.target, nil, x.heap, x.fuel)
		if err != x.err || string(r.Out) != x.out || r.End != x.end || r.Trap != x.trap {
			t.Errorf("%+v: %v, %v", x, r, err)
		}
	}
	a, b := p.Modules(), p.Modules()
	a[0].Body[0].Op = 99
	if b[0].Body[0].Op == 99 || p.Modules()[0].Body[0].Op == 99 {
		t.Error("what is told isn't new memory")
	}
}

// boxed tells a file of a kind.
func boxed(kind byte, payload ...[]byte) []byte {
	b, _ := box.Wrap(kind, bytes.Join(payload, nil))
	return b
}

// P27.2: files that are none.
func TestBytes(t *testing.T) {
	l := sample.Trees(sources()...)
	good, other := pack(t, l[0]), pack(t, l[1], l[0])
	code, _ := slim.Encode(l[0])
	size := varint.Put(nil, uint64(len(code)))
	finger := make([]byte, 8)
	sum := bytes.Clone(code)
	sum[len(sum)-1] ^= 1
	loaded(t, "good", api.OK, boxed(2, size, code, finger))
	for _, x := range []struct {
		what string
		b    []byte
		want api.Errno
	}{
		{"nothing", nil, api.ErrBytes}, {"cut", good[:len(good)-1], api.ErrBytes}, {"more", append(bytes.Clone(good), 0), api.ErrBytes}, {"great", append([]byte("WAFR\x02"), 0xff, 0xff, 0xff, 0xff, 0x0f), api.ErrSize}, {"sum", append(bytes.Clone(good[:len(good)-1]), good[len(good)-1]^1), api.ErrSum},
		{"kind 1", boxed(1, size, code, finger), api.ErrBytes}, {"kind 3", boxed(3, size, code, finger), api.ErrBytes}, {"a tree's file", code, api.ErrBytes}, {"empty", boxed(2), api.ErrBytes}, {"no number", boxed(2, []byte{0x80}), api.ErrBytes}, {"long number", boxed(2, []byte{0x80, 0x00}, finger), api.ErrBytes}, {"no tree", boxed(2, []byte{0}), api.ErrBytes},
		{"no numbers", boxed(2, size, code), api.ErrBytes}, {"two numbers", boxed(2, size, code, finger, finger), api.ErrBytes}, {"half a number", boxed(2, size, code, finger[:4]), api.ErrBytes}, {"short", boxed(2, varint.Put(nil, uint64(len(code)+9)), code, finger), api.ErrBytes}, {"long length", boxed(2, varint.Put(nil, math.MaxUint64), code, finger), api.ErrBytes}, {"tree's sum", boxed(2, size, sum, finger), api.ErrSum}, {"tree's bytes", boxed(2, size, append([]byte("X"), code[1:]...), finger), api.ErrBytes}, {"tree's sum, and half a number", boxed(2, size, sum, finger[:4]), api.ErrBytes},
	} {
		loaded(t, x.what, x.want, x.b)
		loaded(t, x.what+" behind another one", x.want, other, x.b)
		if x.want != api.ErrBytes {
			loaded(t, x.what+" ahead of worse", x.want, x.b, nil)
		}
	}
}

// P27.2: modules that can't be loaded together.
func TestTogether(t *testing.T) {
	l := sample.Trees(sources()...)
	a, b, c := pack(t, l[0]), pack(t, l[1], l[0]), pack(t, l[2], l[0], l[1])
	loaded(t, "twice", api.ErrTwice, a, b, a)
	loaded(t, "without A", api.ErrImport, b, c)
	bare := func(name string, imports ...string) []byte { return pack(t, api.Module{Name: name, Imports: imports}) }
	loaded(t, "round", api.ErrCycle, bare("X", "Y"), bare("Y", "X"))
	loaded(t, "itself", api.ErrCycle, bare("X", "X"))
	var many [][]byte
	for i := range 17 {
		many = append(many, bare("M"+string(rune('a'+i))))
	}
	loaded(t, "16", api.OK, many[:16]...)
	loaded(t, "17", api.ErrLimit, many...)
	for what, x := range map[string]struct {
		m    api.Module
		want api.Errno
	}{
		"name":   {api.Module{Name: "In"}, api.ErrName},
		"type":   {api.Module{Name: "M", Vars: []api.Var{{Name: "v"}}}, api.ErrType},
		"itself": {api.Module{Name: "M", Recs: []api.Rec{{Name: "R", Fields: []api.Var{{Name: "f", T: api.Type{Form: api.Record, Name: "M.R"}}}}}}, api.ErrType},
		"twice":  {api.Module{Name: "M", Imports: []string{"In", "In"}}, api.ErrName},
		"frames": {api.Module{Name: "M", Procs: []api.Proc{{Name: "p", Locals: []api.Var{{Name: "l", T: api.Type{Form: api.Array, N: 1024, Of: []api.Type{{Form: api.Array, N: 3, Of: []api.Type{{Form: api.Int}}}}}}}}}}, api.ErrType},
	} {
		loaded(t, what, x.want, a, pack(t, x.m))
	}
	// What another one of that name exports has another number; what isn't exported has none.
	other := sample.Trees(strings.Replace(first, "k* = 3", "k* = 4", 1))[0]
	loaded(t, "finger", api.ErrFinger, pack(t, other), b)
	loaded(t, "finger, and worse", api.ErrFinger, pack(t, other), b, pack(t, api.Module{Name: "Z", Imports: []string{"B"}, Vars: []api.Var{{Name: "v"}}}))
	loaded(t, "wrong, and finger", api.ErrName, pack(t, other), pack(t, api.Module{Name: "Z", Imports: []string{"A"}, Vars: []api.Var{{Name: "1"}}}))
	hidden := sample.Trees(strings.Replace(first, "hidden: CHAR", "secret: SET", 1))[0]
	loaded(t, "hidden", api.OK, pack(t, hidden), b)
	loaded(t, "without numbers", api.ErrFinger, a, pack(t, l[1]))
}

// P27.2: what targets can't bear.
func TestNeed(t *testing.T) {
	array := "ARRAY 1024 OF ARRAY 9 OF INTEGER"
	for what, x := range map[string]struct {
		srcs []string
		want api.Errno
	}{
		"registers": {[]string{"MODULE M; VAR i: INTEGER; BEGIN i := 1 + (1 + (1 + (1 + (1 + (1 + (1 + (1 + (1 + (1 + (1 + (1 + i))))))))))) END M."}, api.ErrRegs},
		"most":      {[]string{"MODULE M; VAR i: INTEGER; BEGIN i := 1 + (1 + (1 + (1 + (1 + (1 + (1 + (1 + (1 + (1 + (1 + i)))))))))) END M."}, api.OK},
		"words":     {[]string{"MODULE M; VAR a: " + array + "; END M.", "MODULE N; VAR a: " + array + "; END N."}, api.ErrWords},
		"units":     {[]string{"MODULE M; VAR i: INTEGER; BEGIN " + strings.Repeat("INC(i);", 990) + " WHILE i < 0 DO " + strings.Repeat("INC(i);", 990) + " END; WHILE i > 9 DO " + strings.Repeat("INC(i);", 700) + " END END M."}, api.ErrWords},
	} {
		files, _, diags := Compile(x.srcs...)
		if len(diags) > 0 {
			t.Fatalf("%s: %v", what, diags)
		}
		loaded(t, what, x.want, files...)
	}
}

// P40.5: what is right, and need.Check takes, is loaded; P40.3: as that tree.
func TestAccepted(t *testing.T) {
	base := sample.Trees(sample.Base)[0]
	file := pack(t, base)
	n := 0
	for i := range 400 {
		m, diags := front.Compile(sample.Module(i), base)
		if len(diags) > 0 {
			continue
		}
		if i%2 > 0 {
			m = sample.Change(m, i)
		}
		b, err := Pack(m, base)
		if err != api.OK {
			t.Fatalf("%d: %v", i, err)
		}
		p, err := Load(b, file)
		right := recheck.Check(m, base) == api.OK && need.Check(base, m) == api.OK
		if (err == api.OK) != right {
			t.Fatalf("%d: %v", i, err)
		}
		if err == api.OK && (!tree.Same(p.Modules()[1], m) || !tree.Same(p.Modules()[0], base)) {
			t.Fatalf("%d: another tree", i)
		}
		if right {
			n++
		}
	}
	if n < 250 || n > 390 {
		t.Errorf("%d", n)
	}
}

// P40.4: of whatever bytes an error, or right modules, each beside those ahead, with imports' numbers as they are.
func TestStrangers(t *testing.T) {
	r := rand.New(rand.NewSource(1))
	files, _, _ := Compile(sources()...)
	right := 0
	for range 6000 {
		i := r.Intn(3)
		_, payload, _ := box.Open(files[i])
		size, at, _ := varint.Read(payload)
		code, fingers := payload[at:at+int(size)], bytes.Clone(payload[at+int(size):])
		_, bits, _ := box.Open(code)
		bits = bytes.Clone(bits)
		for range 1 + r.Intn(3) {
			bits[r.Intn(len(bits))] ^= 1 << r.Intn(8)
		}
		if r.Intn(10) == 0 {
			fingers[r.Intn(len(fingers))] ^= 1
		}
		code = boxed(1, bits)
		b := boxed(2, varint.Put(nil, uint64(len(code))), code, fingers)
		all := [][]byte{files[0], files[1], files[2]}
		all[i] = b
		p, err := Load(all...)
		if err != api.OK {
			if p != nil {
				t.Fatal("beside an error")
			}
			continue
		}
		right++
		mods := p.Modules()
		if _, err := order.Modules(mods...); err != api.OK || need.Check(mods...) != api.OK {
			t.Fatalf("%v", err)
		}
		for i, m := range mods {
			if recheck.Check(m, mods[:i]...) != api.OK {
				t.Fatalf("%s isn't right", m.Name)
			}
		}
		want := eval.Run([]byte("in"), 20, 1000, mods...)
		for _, target := range []int{api.RISC, api.Stack} {
			got, err := p.Run(target, []byte("in"), 20, 1000000)
			if err != api.OK || want.End != api.Running && !reflect.DeepEqual(got, want) || got.Trap == api.TrapFault {
				t.Fatalf("%v, %v, want %v", got, err, want)
			}
		}
	}
	if right == 0 {
		t.Error("none is right")
	}
	for range 2000 {
		b := make([]byte, r.Intn(60))
		r.Read(b)
		if p, err := Load(boxed(2, b)); err == api.OK || p != nil {
			t.Errorf("%x is loaded", b)
		}
	}
}
