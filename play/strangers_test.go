package play

import (
	"math/rand"
	"reflect"
	"testing"

	"wafer/api"
	"wafer/eval"
	"wafer/loader"
	"wafer/recheck"
	"wafer/sample"
	"wafer/tree"
)

// parts gathers all parts of a tree, by their types.
func parts(v reflect.Value, l map[reflect.Type][]reflect.Value) {
	l[v.Type()] = append(l[v.Type()], v)
	switch v.Kind() {
	case reflect.Struct:
		for i := range v.NumField() {
			parts(v.Field(i), l)
		}
	case reflect.Slice:
		for i := range v.Len() {
			parts(v.Index(i), l)
		}
	}
}

// changed tells a tree that is like m, but for a part or two, which are like other parts of their types, or have one less or more.
func changed(m api.Module, r *rand.Rand) api.Module {
	from, to := tree.Clone(m), tree.Clone(m)
	old, all := map[reflect.Type][]reflect.Value{}, map[reflect.Type][]reflect.Value{}
	parts(reflect.ValueOf(&from).Elem(), old)
	parts(reflect.ValueOf(&to).Elem(), all)
	var l []reflect.Value
	for _, one := range []any{0, int32(0), "", true, api.Type{}, api.Expr{}, api.Stmt{}, api.Var{}, api.Rec{}, api.Proc{}, []api.Expr{}, []api.Stmt{}, []int32{}, []api.Var{}, []api.Param{}, []string{}} {
		if of := all[reflect.TypeOf(one)]; len(of) > 0 {
			l = append(l, of[r.Intn(len(of))])
		}
	}
	for range 1 + r.Intn(2) {
		v := l[r.Intn(len(l))]
		w := old[v.Type()][r.Intn(len(old[v.Type()]))]
		switch {
		case v.Kind() == reflect.Int32 && r.Intn(3) == 0:
			v.SetInt([]int64{0, 1, -1, 31, 32, 255, 256, 65535, 65536, -65536, 1<<31 - 1, -1 << 31}[r.Intn(12)])
		case v.Kind() == reflect.Slice && v.Len() > 0 && r.Intn(3) == 0:
			i := r.Intn(v.Len())
			v.Set(reflect.AppendSlice(v.Slice3(0, i, i), v.Slice(i+1, v.Len())))
		case v.Kind() == reflect.Slice && w.Len() > 0 && r.Intn(2) == 0:
			v.Set(reflect.Append(v.Slice3(0, v.Len(), v.Len()), w.Index(r.Intn(w.Len()))))
		default:
			v.Set(w)
		}
	}
	return tree.Clone(to)
}

// P40.2, P40.4, P40.5, P40.6: of whatever trees: an error, or a program of which the targets and the model agree.
func TestStrangers(t *testing.T) {
	r := rand.New(rand.NewSource(1))
	base := sample.Trees(sample.Base)[0]
	var l []api.Module
	for _, srcs := range sample.Programs() {
		if len(srcs) == 1 {
			l = append(l, sample.Trees(srcs...)...)
		}
	}
	for i := range 60 {
		if _, _, diags := loader.Compile(sample.Base, sample.Module(i)); len(diags) == 0 {
			l = append(l, sample.Trees(sample.Base, sample.Module(i))[1])
		}
	}
	right := 0
	for i := range 3000 {
		m := changed(l[r.Intn(len(l))], r)
		file, err := loader.Pack(m, base)
		if err != api.OK {
			continue
		}
		ahead, _ := loader.Pack(base)
		p, err := loader.Load(file, ahead)
		if is := recheck.Check(m, base); is != err && m.Name != base.Name && err != api.ErrImport && err != api.ErrCycle && err != api.ErrRegs && err != api.ErrWords {
			t.Fatalf("%v, %v of %+v", err, is, m)
		}
		if err != api.OK {
			continue
		}
		right++
		in := sample.Input(i)
		want := eval.Run(in, 100, 3000, p.Modules()...)
		risc, err := p.Run(api.RISC, in, 100, 200000)
		stack, err2 := p.Run(api.Stack, in, 100, 200000)
		if err != api.OK || err2 != api.OK || !Agree(risc, want) || !Agree(stack, want) || !Agree(risc, stack) || risc.Trap == api.TrapFault || stack.Trap == api.TrapFault {
			t.Fatalf("%v, %v, want %v of %+v", risc, stack, want, m)
		}
	}
	if right < 300 {
		t.Errorf("%d", right)
	}
}
