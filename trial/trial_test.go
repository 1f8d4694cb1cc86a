package trial

import (
	"strings"
	"testing"

	"wafer/api"
	"wafer/eval"
)

// model is a machine that does what the model does.
func model(in []byte, heap, steps int, mods ...api.Module) (api.Result, api.Errno) {
	return eval.Run(in, heap, min(steps, fuel), mods...), api.OK
}

// Of what the model does nobody complains.
func TestRun(t *testing.T) {
	for _, s := range Run(model) {
		t.Error(s)
	}
}

// A machine that does something else is complained of.
func TestComplaints(t *testing.T) {
	for what, run := range map[string]Machine{
		"err 45": func(in []byte, heap, steps int, mods ...api.Module) (api.Result, api.Errno) {
			return api.Result{}, api.ErrWords
		},
		"trap 15": func(in []byte, heap, steps int, mods ...api.Module) (api.Result, api.Errno) {
			return api.Result{End: api.Trapped, Trap: api.TrapFault}, api.OK
		},
		"by the model": func(in []byte, heap, steps int, mods ...api.Module) (api.Result, api.Errno) {
			r, _ := model(in, heap, steps, mods...)
			r.Out = append(r.Out, '!')
			return r, api.OK
		},
	} {
		c := &trial{run: run, ends: map[int]int{}}
		c.limits()
		if len(c.complaints) != 17 || !strings.Contains(c.complaints[0], what) {
			t.Errorf("%s: %d, %q", what, len(c.complaints), c.complaints)
		}
	}
}
