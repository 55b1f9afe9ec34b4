package subtype_test

import (
	"reflect"
	"testing"

	"hackamore/api"
	"hackamore/samples"
	. "hackamore/subtype"
)

// TestAnything: P9.1 and P9.3 for any arguments: no call panics, and with an error all results are zero values.
func TestAnything(t *testing.T) {
	yes := 0
	for seed := range uint64(4000) {
		m := samples.New(seed)
		p, a, b := m.OddProgram(), m.AnyType(3), m.AnyType(3)
		if m.Below(2) == 0 {
			b = api.Type{Kind: api.TypeUnion, Args: []api.Type{b, m.AnyType(2), a}}
		}
		d, e := Derive(p, a, b)
		if Is(p, a, b) != (e == api.OK) || e != api.OK && !reflect.DeepEqual(d, Proof{}) {
			t.Fatalf("seed %d: Derive: %v, error %d", seed, d, e)
		}
		if e == api.OK {
			yes++
			if f := Check(p, d); f != api.OK || !Bare(p, a, b) {
				t.Fatalf("seed %d: Check: error %d", seed, f)
			}
			change(m, &d)
			if Check(p, d) == api.OK && !Is(p, d.A, d.B) {
				t.Fatalf("seed %d: Check takes a derivation of what does not hold: %v", seed, d)
			}
		}
		if l, e := Supers(p, a); e != api.OK && l != nil || e == api.OK && len(l) == 0 {
			t.Fatalf("seed %d: Supers: %v, error %d", seed, l, e)
		}
		if l, e := Methods(p, a); e != api.OK && l != nil {
			t.Fatalf("seed %d: Methods: %v, error %d", seed, l, e)
		}
		if x, e := Lookup(p, b, m.OddName()); e != api.OK && !reflect.DeepEqual(x, api.Method{}) {
			t.Fatalf("seed %d: Lookup: %v, error %d", seed, x, e)
		}
		Find(p, m.OddName())
		Same(p, a, b)
		Method(p, m.OddMethod(), m.OddMethod())
		Check(p, Proof{Rule: m.Number(), N: m.Number(), A: a, B: b, Kids: []Proof{{A: b}}})
	}
	if yes < 500 {
		t.Errorf("only %d answers were yes", yes)
	}
}

// change changes a derivation in one place.
func change(m *samples.Maker, d *Proof) {
	for len(d.Kids) > 0 && m.Below(3) > 0 {
		d = &d.Kids[m.Below(len(d.Kids))]
	}
	switch m.Below(6) {
	case 0:
		d.Rule = 1 + m.Below(9)
	case 1:
		d.N = m.Below(3)
	case 2:
		d.A.Cap = m.Below(7)
	case 3:
		d.B = d.A
	case 4:
		d.Kids = nil
	case 5:
		d.B.Cap = m.Below(7)
	}
}
