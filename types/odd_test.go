package types_test

import (
	"reflect"
	"testing"

	"hackamore/api"
	"hackamore/samples"
	. "hackamore/types"
)

// TestAnything: P8.1 for any arguments: no call panics, and with an error all results are zero values.
func TestAnything(t *testing.T) {
	results := map[bool]int{}
	for seed := range uint64(6000) {
		m := samples.New(seed)
		x, y := m.AnyType(4), m.OddType(3)
		l := []api.Type{x, m.AnyType(2)}
		params := []string{"x", m.OddName()}[:1+m.Below(2)]
		c, mark := m.Number(), m.Number()
		both := func(r api.Type, e api.Errno) {
			t.Helper()
			results[e == api.OK]++
			if e != api.OK && !reflect.DeepEqual(r, api.Type{}) || e == api.OK && Check(r) != api.OK {
				t.Fatalf("seed %d: %v, error %d", seed, r, e)
			}
		}
		both(Normal(x))
		both(Union(l))
		both(Union([]api.Type{x, y}))
		both(Subst(x, params, l))
		both(Self(x, c, mark))
		both(With(x, c))
		both(Aliased(x))
		both(Consumed(x))
		both(Seen(c, x))
		both(Extracted(c, x))
		both(Recovered(x, c))
		s, e := Text(x)
		both(Parse(s))
		if e != api.OK && s != "" || e != Check(x) {
			t.Fatalf("seed %d: Text: %q, error %d", seed, s, e)
		}
		if r, e := Method(m.OddMethod(), params, l); e != api.OK && !reflect.DeepEqual(r, api.Method{}) {
			t.Fatalf("seed %d: Method: %v, error %d", seed, r, e)
		}
		Storable(c, x)
		Sendable(x)
		Reified(x)
		Params(x)
		Size(y)
		if !Equal(y, y) {
			t.Fatalf("seed %d: a type is not Equal to itself", seed)
		}
	}
	if results[true] < 10000 || results[false] < 10000 {
		t.Errorf("results: %v", results)
	}
}
