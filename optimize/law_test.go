package optimize_test

import (
	"slices"
	"testing"

	"hackamore/api"
	"hackamore/graphs"
	"hackamore/optimize"
	"hackamore/ssa"
	"hackamore/witness"
)

// TestDone: behind a pass no step of its kinds may be done, and it has nothing left to do (P21.3).
func TestDone(t *testing.T) {
	count := map[int]int{}
	for pass := 1; pass <= optimize.Passes; pass++ {
		for seed := range uint64(60) {
			m := graphs.New(seed+uint64(pass)*1000, 5, seed%5 == 0)
			p := m.Program(2 + m.Below(3))
			var passes []int
			for range m.Below(3) {
				passes = append(passes, 1+m.Below(optimize.Passes))
			}
			q, l := run(t, p, append(passes, pass)...)
			for _, s := range l {
				count[s.Kind]++
			}
			if pass == optimize.Inline {
				inlined(t, q)
				continue
			}
			for i := range q.Funcs {
				for _, kind := range kindsOf(pass) {
					for _, s := range steps(q, kind, i) {
						if _, e := witness.Apply(q, s); e != witness.ErrRule {
							t.Fatalf("behind the pass %d: %v may be done, error %d", pass, s, e)
						}
					}
				}
			}
			if again, l := run(t, q, pass); len(l) > 0 || !alike(again, q) {
				t.Fatalf("the pass %d has %d more steps", pass, len(l))
			}
		}
	}
	for kind := 1; kind <= optimize.StepCount; kind++ {
		if count[kind] < 5 {
			t.Errorf("steps %v", count)
		}
	}
}

// inlined asks that no call is left that has to be inlined.
func inlined(t *testing.T, p ssa.Program) {
	t.Helper()
	named := map[string]ssa.Func{}
	for _, f := range p.Funcs {
		named[f.Name] = f
	}
	for i, f := range p.Funcs {
		for _, b := range f.Blocks {
			for _, x := range b.Ins {
				if x.Op != ssa.Direct || !isSimple(named[x.Text]) {
					continue
				}
				s := optimize.Step{Kind: optimize.StepInline, Func: i, A: x.Result}
				if q, e := witness.Apply(p, s); e == api.OK && optimize.Size(ssa.Program{Funcs: q.Funcs[i : i+1]}) <= 1000 {
					t.Fatalf("%v is left", s)
				}
			}
		}
	}
}

// isSimple reports whether a function has at most 10 instructions, and neither a direct call nor variables.
func isSimple(f ssa.Func) bool {
	n := 0
	for _, b := range f.Blocks {
		n += len(b.Ins)
		has := func(x ssa.Ins) bool { return x.Op == ssa.Direct || x.Op == ssa.Load || x.Op == ssa.Store }
		if slices.ContainsFunc(b.Ins, has) || has(b.End.Call) {
			return false
		}
	}
	return n <= 10
}

// TestKinds: the kinds of steps are those of the passes, pass by pass; without Inline no program grows (P21.4).
func TestKinds(t *testing.T) {
	for seed := range uint64(80) {
		m := graphs.New(seed+21000, 7, seed%3 == 0)
		p := m.Program(4)
		var passes []int
		for range 1 + m.Below(6) {
			passes = append(passes, 1+m.Below(optimize.Passes))
		}
		if seed%10 == 0 {
			passes = optimize.Usual(3)
		}
		q, l := run(t, p, passes...)
		left := l
		for i, pass := range passes {
			n, grown := run(t, p, passes[:i+1]...)
			if len(grown) > len(l) || !alike(grown, l[:len(grown)]) {
				t.Fatalf("the steps of the first %d passes of %v are others", i+1, passes)
			}
			own := left[:len(grown)-(len(l)-len(left))]
			left = l[len(grown):]
			if slices.ContainsFunc(own, func(s optimize.Step) bool { return !slices.Contains(kindsOf(pass), s.Kind) }) {
				t.Fatalf("the pass %d has the steps %v", pass, own)
			}
			if before, _ := run(t, p, passes[:i]...); pass != optimize.Inline && optimize.Size(n) > optimize.Size(before) {
				t.Fatalf("the pass %d makes a program greater", pass)
			}
		}
		if again, more, _ := optimize.Run(p, passes); !alike(again, q) || !alike(more, l) {
			t.Fatal("another run has another result")
		}
		sameEffects(t, passes, p, q)
	}
}

// sameEffects plays all functions of two programs, and compares what happens, unless a call became direct.
func sameEffects(t *testing.T, passes []int, p, q ssa.Program) {
	t.Helper()
	if slices.Contains(passes, optimize.Devirt) {
		return
	}
	for i := range p.Funcs {
		args := []graphs.Value{graphs.Number(i), graphs.Number(2 * i)}[:len(p.Funcs[i].Params)]
		a, did := graphs.Play(p, p.Funcs[i], args, 300)
		b, does := graphs.Play(q, q.Funcs[i], args, 300)
		if a == graphs.Tired || b == graphs.Tired {
			n := min(len(did), len(does))
			did, does = did[:n], does[:n]
		} else if a != b {
			t.Fatalf("%v: %s, not %s", passes, b, a)
		}
		if !slices.Equal(did, does) {
			t.Fatalf("%v: %q, not %q", passes, does, did)
		}
	}
}
