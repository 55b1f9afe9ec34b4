package witness_test

import (
	"reflect"
	"slices"
	"strings"
	"testing"

	"hackamore/api"
	"hackamore/graphs"
	"hackamore/num"
	"hackamore/optimize"
	"hackamore/ssa"
)

// alike compares two values of any type; nil and empty lists are equal.
func alike(a, b any) bool { return equal(reflect.ValueOf(a), reflect.ValueOf(b)) }

func equal(a, b reflect.Value) bool {
	switch a.Kind() {
	case reflect.Slice:
		if a.Len() != b.Len() {
			return false
		}
		for i := range a.Len() {
			if !equal(a.Index(i), b.Index(i)) {
				return false
			}
		}
		return true
	case reflect.Struct:
		for i := range a.NumField() {
			if !equal(a.Field(i), b.Field(i)) {
				return false
			}
		}
		return true
	}
	return a.Equal(b)
}

// steps returns all steps of a kind that might be done in a function.
func steps(p ssa.Program, kind, n int) []optimize.Step {
	var l []optimize.Step
	step := func(a, b int) { l = append(l, optimize.Step{Kind: kind, Func: n, A: a, B: b}) }
	f := p.Funcs[n]
	uses, _ := ssa.Uses(f)
	switch kind {
	case optimize.StepCopy, optimize.StepCommon, optimize.StepField:
		for _, a := range made(f, kind) {
			for b := range uses {
				step(a, b)
			}
		}
	case optimize.StepBranch:
		for a := range f.Blocks {
			step(a, 0)
			step(a, 1)
		}
	case optimize.StepJoin:
		for a := range f.Blocks {
			step(a, 0)
		}
	case optimize.StepDirect:
		for a := range uses {
			for _, g := range p.Funcs {
				l = append(l, optimize.Step{Kind: kind, Func: n, A: a, Text: g.Name})
			}
		}
	case optimize.StepFold:
		l = folds(f, n)
	default:
		for a := range uses {
			step(a, 0)
		}
	}
	return l
}

// made returns the values that might be those of a step of a kind.
func made(f ssa.Func, kind int) []int {
	var l []int
	for _, b := range f.Blocks {
		for _, x := range b.Ins {
			switch {
			case kind == optimize.StepCopy && x.Op != ssa.Phi && x.Op != ssa.Item, kind == optimize.StepField && x.Op != ssa.Get:
			default:
				l = append(l, x.Result)
			}
		}
	}
	return l
}

// folds returns the steps that fold instructions, with what they might give.
func folds(f ssa.Func, n int) []optimize.Step {
	lits := map[int]api.Value{}
	var l []optimize.Step
	for _, b := range f.Blocks {
		for _, x := range b.Ins {
			if x.Op == ssa.Const {
				lits[x.Result] = x.Lit
			}
		}
	}
	for _, b := range f.Blocks {
		for _, x := range b.Ins {
			var args []api.Value
			for _, v := range x.Args {
				args = append(args, lits[v])
			}
			typ, method, _ := strings.Cut(x.Text, ".")
			v, _, _ := num.Call(typ, method, args)
			for _, lit := range []api.Value{v, {Kind: api.ValBool}, {Kind: api.ValBool, Lo: 1}} {
				l = append(l, optimize.Step{Kind: optimize.StepFold, Func: n, A: x.Result, Lit: lit})
			}
		}
	}
	return l
}

// sameEffects plays all functions of two programs, and compares what happens.
func sameEffects(t *testing.T, what any, p, q ssa.Program) {
	t.Helper()
	for i := range p.Funcs {
		for k := range 3 {
			var args []graphs.Value
			for j := range p.Funcs[i].Params {
				args = append(args, graphs.Number(k+j*k/2))
			}
			a, did := graphs.Play(p, p.Funcs[i], args, 300)
			b, does := graphs.Play(q, q.Funcs[i], args, 300)
			if a == graphs.Tired || b == graphs.Tired {
				n := min(len(did), len(does))
				did, does = did[:n], does[:n]
			} else if a != b {
				t.Fatalf("%v: %s, not %s", what, b, a)
			}
			if !slices.Equal(did, does) {
				t.Fatalf("%v: %q, not %q", what, does, did)
			}
		}
	}
}

// size counts instructions and blocks of a program, uses of values, and instructions that are no consts.
func size(p ssa.Program) (all, uses int) {
	for _, f := range p.Funcs {
		all += len(f.Blocks)
		l, _ := ssa.Uses(f)
		for _, n := range l {
			uses += n
		}
		for _, b := range f.Blocks {
			all += len(b.Ins)
		}
	}
	return all, uses
}
