package generic_test

import (
	"reflect"
	"testing"

	"hackamore/api"
	. "hackamore/generic"
	"hackamore/samples"
)

// TestAnything: P10.1 for any arguments: no call panics, and with an error all results are zero values.
func TestAnything(t *testing.T) {
	codes := map[api.Errno]int{}
	for seed := range uint64(6000) {
		m := samples.New(seed)
		p := m.OddProgram()
		l := []api.Type{m.AnyType(2), m.AnyType(3)}[:m.Below(3)]
		Fulfils(p, m.Bounds(), l)
		if s, e := Named(m.OddName(), l); e != api.OK && s != "" {
			t.Fatalf("seed %d: Named: %q, error %d", seed, s, e)
		}
		if x, from, e := Find(p, m.OddName(), m.OddName()); e != api.OK && (from != "" || !reflect.DeepEqual(x, api.Method{})) {
			t.Fatalf("seed %d: Find: %v, error %d", seed, x, e)
		}
		if w, e := Whole(p); e != api.OK && w != nil {
			t.Fatalf("seed %d: Whole: error %d", seed, e)
		}
		if x, e := Instance(p, m.OddName(), l); e != api.OK && !reflect.DeepEqual(x, api.Entity{}) {
			t.Fatalf("seed %d: Instance: %v, error %d", seed, x, e)
		}
		if x, e := Variant(m.OddMethod(), l); e != api.OK && !reflect.DeepEqual(x, api.Method{}) {
			t.Fatalf("seed %d: Variant: %v, error %d", seed, x, e)
		}
		if _, e := Edges(p); e != api.OK {
			t.Fatalf("seed %d: Edges: error %d", seed, e)
		}
		Ends(p)
		r, e := Reify(p, "m.Main")
		codes[e]++
		if e != api.OK && r != nil {
			t.Fatalf("seed %d: Reify: error %d", seed, e)
		}
		if e == api.OK {
			closed(t, r)
		}
	}
	if len(codes) < 6 {
		t.Errorf("Reify: %v", codes)
	}
}
