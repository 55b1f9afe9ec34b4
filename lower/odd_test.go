package lower_test

import (
	"testing"

	"hackamore/api"
	"hackamore/graphs"
	"hackamore/lower"
	"hackamore/meaning"
	"hackamore/samples"
	"hackamore/ssa"
	"hackamore/world"
)

// TestAnyProgram: programs of all kinds; where all is as it is asked for, they run alike by both engines.
func TestAnyProgram(t *testing.T) {
	m := samples.New(201)
	count := map[api.Errno]int{}
	for range 2500 {
		p := append(m.OddProgram(), api.Entity{Kind: api.Actor, Name: "Out"}, api.Entity{Kind: api.Class, Name: "Env", Fields: []api.Field{{Name: "out"}, {Name: "args"}, {Name: "root"}}})
		main := api.Entity{Kind: api.Actor, Name: "main.Main", Methods: []api.Method{{Kind: api.New, Name: "create", Params: []api.Param{{Name: "env"}}, Body: m.OddExpr(4)}}}
		p = append(p, main)
		f, e := lower.Lower(p)
		count[e]++
		if e != api.OK {
			if !alike(f, ssa.Program{}) {
				t.Fatal("a result with an error")
			}
			continue
		}
		if at, e := ssa.Check(f); e != api.OK {
			t.Fatalf("functions that are not right: error %d at %v", e, at)
		}
		s, end := meaning.Run(p, nil, nil, 300)
		r, end2 := lower.Run(f, p, nil, nil, 100000)
		if end.Kind == meaning.Rest && (end2 != end || dumped(t, s) != dumped(t, r) || !alike(s.Trace, r.Trace)) {
			t.Fatalf("%v, not %v", end2, end)
		}
	}
	if count[api.OK] < 100 || count[lower.ErrLower] < 100 || len(count) < 3 {
		t.Errorf("errors %v", count)
	}
}

// TestAnyFunctions: functions made by numbers are run; the state stays right, and the fuel is kept to (P20.3).
func TestAnyFunctions(t *testing.T) {
	p := parsed(t, text)
	kinds := map[int]int{}
	for seed := range uint64(400) {
		m := graphs.New(seed+202, 8, seed%2 == 0)
		f := ssa.Program{Funcs: []ssa.Func{m.Func("main.Main.create", 2), m.Func("main.Leaf.m", 1), m.Func("U8.m", 1)}}
		w, e := world.New(p, nil)
		if e != api.OK {
			t.Fatalf("New: error %d", e)
		}
		fuel := 4 + m.Below(30)
		used, end, ok := lower.Step(f, w, 0, fuel)
		kinds[end.Kind]++
		if !ok || used > fuel || used < 1 || world.Check(w.State()) != api.OK {
			t.Fatalf("%v, used %d of %d", end, used, fuel)
		}
		if end.Code == api.ErrSteps {
			continue
		}
		again, _ := world.New(p, nil)
		if n, other, _ := lower.Step(f, again, 0, fuel+1000); n != used || other != end || !alike(w.State(), again.State()) {
			t.Fatalf("with more fuel: %v, used %d, not %v, %d", other, n, end, used)
		}
	}
	if kinds[meaning.Rest] < 10 || kinds[meaning.Fuel] < 10 || kinds[meaning.Stuck] < 10 {
		t.Errorf("ends %v", kinds)
	}
}
