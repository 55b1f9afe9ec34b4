package witness_test

import (
	"slices"
	"testing"

	"hackamore/api"
	"hackamore/graphs"
	"hackamore/num"
	"hackamore/optimize"
	"hackamore/ssa"
	"hackamore/witness"
	"strings"
)

func values(f ssa.Func) int {
	u, _ := ssa.Uses(f)
	return len(u)
}

// candidates are all steps of a kind that might be done in a function.
func candidates(p ssa.Program, k, n int) []optimize.Step {
	f := p.Funcs[n]
	var l []optimize.Step
	vs := values(f)
	step := func(a, b int) { l = append(l, optimize.Step{Kind: k, Func: n, A: a, B: b}) }
	switch k {
	case optimize.StepCopy, optimize.StepCommon, optimize.StepField:
		for a := range vs {
			for b := range vs {
				step(a, b)
			}
		}
	case optimize.StepBranch:
		for a := range f.Blocks {
			step(a, 0)
			step(a, 1)
		}
	case optimize.StepJoin:
		for a := range f.Blocks {
			step(a, 0)
		}
	case optimize.StepDirect:
		for a := range vs {
			for _, g := range p.Funcs {
				l = append(l, optimize.Step{Kind: k, Func: n, A: a, Text: g.Name})
			}
		}
	case optimize.StepFold:
		lits := map[int]api.Value{}
		for _, b := range f.Blocks {
			for _, x := range b.Ins {
				if x.Op == ssa.Const {
					lits[x.Result] = x.Lit
				}
			}
		}
		for _, b := range f.Blocks {
			for _, x := range b.Ins {
				if x.Op == ssa.Is {
					for lo := range uint64(2) {
						l = append(l, optimize.Step{Kind: k, Func: n, A: x.Result, Lit: api.Value{Kind: 1, Lo: lo}})
					}
				}
				if x.Op == ssa.Native {
					var args []api.Value
					for _, v := range x.Args {
						args = append(args, lits[v])
					}
					typ, m, _ := strings.Cut(x.Text, ".")
					v, _, _ := num.Call(typ, m, args)
					l = append(l, optimize.Step{Kind: k, Func: n, A: x.Result, Lit: v})
				}
			}
		}
	default:
		for a := range vs {
			step(a, 0)
		}
	}
	return l
}

var kindsOf = map[int][]int{
	optimize.Copies: {1, 4}, optimize.Fold: {2, 5}, optimize.Common: {3}, optimize.Dead: {4, 6}, optimize.Inline: {7}, optimize.Devirt: {8}, optimize.Escape: {9}, optimize.Forward: {10},
}

func TestProbe(t *testing.T) {
	done := map[int]int{}
	for seed := range uint64(400) {
		m := graphs.New(seed, 8, seed%3 == 0)
		p := m.Program(4)
		if at, e := ssa.Check(p); e != api.OK {
			t.Fatalf("%d: %v %d", seed, at, e)
		}
		var passes []int
		for range 4 {
			passes = append(passes, 1+m.Below(8))
		}
		q, l, e := optimize.Run(p, passes)
		if e != api.OK {
			t.Fatalf("%d: %d", seed, e)
		}
		if n, e := witness.Check(p, q, l); e != api.OK {
			t.Fatalf("%d: step %d of %d: error %d %v", seed, n, len(l), e, passes)
		}
		for _, s := range l {
			done[s.Kind]++
		}
		last := passes[3]
		if last == optimize.Inline {
			continue
		}
		for i := range q.Funcs {
			for _, k := range kindsOf[last] {
				for _, s := range candidates(q, k, i) {
					if _, e := witness.Apply(q, s); e != witness.ErrRule {
						t.Fatalf("%d: %v may be done behind %v: %d", seed, s, passes, e)
					}
				}
			}
		}
		// each step keeps what happens
		at := p
		for _, s := range l {
			next, e := witness.Apply(at, s)
			if e != api.OK {
				t.Fatal(e)
			}
			if s.Kind != optimize.StepDirect {
				for k := range 4 {
					compare(t, at, next, s, k)
				}
			}
			at = next
		}
	}
	t.Log(done)
}

func compare(t *testing.T, p, q ssa.Program, s optimize.Step, k int) {
	t.Helper()
	for i := range p.Funcs {
		var args []graphs.Value
		for j := range p.Funcs[i].Params {
			args = append(args, graphs.Number(k+j*k/2))
		}
		a, la := graphs.Play(p, p.Funcs[i], args, 400)
		b, lb := graphs.Play(q, q.Funcs[i], args, 400)
		if a == graphs.Tired || b == graphs.Tired {
			n := min(len(la), len(lb))
			la, lb = la[:n], lb[:n]
		} else if a != b {
			t.Fatalf("%v: %s, not %s", s, b, a)
		}
		if !slices.Equal(la, lb) {
			t.Fatalf("%v: %q, not %q", s, lb, la)
		}
	}
}
