package flow_test

import (
	"reflect"
	"testing"

	"hackamore/api"
	. "hackamore/flow"
	"hackamore/samples"
)

// TestAnything: P11.1 for any arguments: no call panics, and with an error all results are zero values.
func TestAnything(t *testing.T) {
	right := 0
	for seed := range uint64(6000) {
		m := samples.New(seed)
		for _, e := range m.OddProgram() {
			partial := [][]int{{m.Number()}, {m.Number(), m.Number()}, nil, {0}}
			r, wrong := Check(e, m.Number(), partial)
			if wrong != api.OK && !reflect.DeepEqual(r, Report{}) {
				t.Fatalf("seed %d: Check: %v, error %d", seed, r, wrong)
			}
		}
		x := m.OddExpr(3)
		l, e := Locals(x)
		f, g := Free(x)
		v, h := Valued(x, []string{m.OddName()}, []int{m.Number()})
		at, i := At(x, []int{m.Number(), m.Number()})
		if e != api.OK && l != nil || g != api.OK && f != nil || h != api.OK && v != nil || i != api.OK && !reflect.DeepEqual(at, api.Expr{}) || e != g {
			t.Fatalf("seed %d: errors %d, %d, %d, %d", seed, e, g, h, i)
		}
		if e == api.OK {
			right++
		}
	}
	if right < 300 {
		t.Errorf("only %d expressions are right", right)
	}
}
