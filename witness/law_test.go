package witness_test

import (
	"testing"

	"hackamore/api"
	"hackamore/graphs"
	"hackamore/optimize"
	"hackamore/ssa"
	"hackamore/witness"
)

// TestSteps: whatever may be done leads to a program that is right, and does the same (P22.2, P22.3).
func TestSteps(t *testing.T) {
	done := map[int]int{}
	for seed := range uint64(150) {
		m := graphs.New(seed+2200, 6, seed%4 == 0)
		p := m.Program(3)
		for kind := 1; kind <= optimize.StepCount; kind++ {
			for i := range p.Funcs {
				tried := steps(p, kind, i)
				for range min(len(tried), 60) {
					s := tried[m.Below(len(tried))]
					q, e := witness.Apply(p, s)
					if e != api.OK {
						if e != witness.ErrRule || !alike(q, ssa.Program{}) {
							t.Fatalf("%v: error %d", s, e)
						}
						continue
					}
					done[kind]++
					if at, e := ssa.Check(q); e != api.OK {
						t.Fatalf("%v: error %d at %v", s, e, at)
					}
					if kind != optimize.StepDirect {
						sameEffects(t, s, p, q)
					}
					fewer(t, s, p, q)
				}
			}
		}
	}
	for kind := 1; kind <= optimize.StepCount; kind++ {
		if done[kind] < 5 {
			t.Errorf("steps that were done: %v", done)
		}
	}
}

// fewer asks what there is less of behind a step (P22.4).
func fewer(t *testing.T, s optimize.Step, p, q ssa.Program) {
	t.Helper()
	all, uses := size(p)
	allLeft, usesLeft := size(q)
	switch s.Kind {
	case optimize.StepInline, optimize.StepDirect, optimize.StepStack:
		return
	case optimize.StepCopy:
		before, _ := ssa.Uses(p.Funcs[s.Func])
		behind, _ := ssa.Uses(q.Funcs[s.Func])
		if before[s.A] > 0 && behind[s.A] > 0 || allLeft != all {
			t.Fatalf("%v: the value is used %d times", s, behind[s.A])
		}
		return
	}
	if allLeft > all || usesLeft > uses || allLeft == all && usesLeft == uses {
		t.Fatalf("%v: %d and %d are left of %d and %d", s, allLeft, usesLeft, all, uses)
	}
}

// TestWitness: what passes do is checked; a step less, or another program, is not (P21.2, P22.2).
func TestWitness(t *testing.T) {
	errors := map[api.Errno]int{}
	for seed := range uint64(150) {
		m := graphs.New(seed+2300, 7, false)
		p := m.Program(4)
		var passes []int
		for range 4 {
			passes = append(passes, 1+m.Below(optimize.Passes))
		}
		q, l, e := optimize.Run(p, passes)
		if e != api.OK {
			t.Fatalf("error %d", e)
		}
		if n, e := witness.Check(p, q, l); n != 0 || e != api.OK {
			t.Fatalf("step %d of %d: error %d", n, len(l), e)
		}
		at := p
		for i, s := range l {
			if n, e := witness.Check(p, at, l[:i]); n != 0 || e != api.OK {
				t.Fatalf("the steps ahead of %d: error %d", i, e)
			}
			if at, e = witness.Apply(at, s); e != api.OK {
				t.Fatalf("step %d: error %d", i, e)
			}
		}
		if len(l) == 0 {
			continue
		}
		k := m.Below(len(l))
		less := append(append([]optimize.Step{}, l[:k]...), l[k+1:]...)
		n, e := witness.Check(p, q, less)
		errors[e]++
		if e == witness.ErrResult && n != len(less) || e == witness.ErrRule && n < k {
			t.Fatalf("without the step %d, %v: error %d at %d", k, l[k], e, n)
		}
	}
	if errors[witness.ErrResult] < 20 || errors[witness.ErrRule] < 5 {
		t.Errorf("errors %v", errors)
	}
}
