package optimize_test

import (
	"reflect"
	"strings"
	"testing"

	"hackamore/api"
	"hackamore/graphs"
	"hackamore/num"
	"hackamore/optimize"
	"hackamore/ssa"
	"hackamore/witness"
)

// Short names for what functions are made of.
var (
	ins      = graphs.Ins
	text     = graphs.Text
	item     = graphs.Item
	number   = graphs.Const
	truth    = graphs.Truth
	typed    = graphs.Typed
	jump     = graphs.Jump
	branch   = graphs.Branch
	returns  = graphs.Return
	attempt  = graphs.Try
	block    = graphs.Block
	function = graphs.Function
	name     = graphs.Name
)

// one returns a program of one function with two parameters.
func one(l ...ssa.Block) ssa.Program {
	return ssa.Program{Funcs: []ssa.Func{function("f", 2, l...)}}
}

// run does passes, whose witness is checked.
func run(t *testing.T, p ssa.Program, passes ...int) (ssa.Program, []optimize.Step) {
	t.Helper()
	q, l, e := optimize.Run(p, passes)
	if e != api.OK {
		t.Fatalf("%v: error %d", passes, e)
	}
	if n, e := witness.Check(p, q, l); n != 0 || e != api.OK {
		t.Fatalf("%v: step %d of %d: error %d", passes, n, len(l), e)
	}
	return q, l
}

// becomes checks what a pass makes of a program, and the kinds of its steps.
func becomes(t *testing.T, what string, pass int, p, want ssa.Program, kinds ...int) {
	t.Helper()
	q, l := run(t, p, pass)
	var got []int
	for _, s := range l {
		got = append(got, s.Kind)
	}
	same := len(q.Funcs) == len(want.Funcs)
	for i := range q.Funcs {
		same = same && ssa.Equal(q.Funcs[i], want.Funcs[i])
	}
	if !same || !alike(got, kinds) {
		text, _ := ssa.Print(q.Funcs)
		t.Errorf("%s: steps of the kinds %v, not %v\n%s", what, got, kinds, text)
	}
}

// kindsOf returns the kinds of the steps of a pass.
func kindsOf(pass int) []int {
	return [][]int{
		optimize.Copies: {optimize.StepCopy, optimize.StepDrop}, optimize.Fold: {optimize.StepFold, optimize.StepBranch}, optimize.Common: {optimize.StepCommon}, optimize.Dead: {optimize.StepDrop, optimize.StepJoin},
		optimize.Inline: {optimize.StepInline}, optimize.Devirt: {optimize.StepDirect}, optimize.Escape: {optimize.StepStack}, optimize.Forward: {optimize.StepField},
	}[pass]
}

// steps returns all steps of a kind that might be done in a function.
func steps(p ssa.Program, kind, n int) []optimize.Step {
	var l []optimize.Step
	step := func(a, b int) { l = append(l, optimize.Step{Kind: kind, Func: n, A: a, B: b}) }
	f := p.Funcs[n]
	uses, _ := ssa.Uses(f)
	switch kind {
	case optimize.StepCopy, optimize.StepCommon, optimize.StepField:
		for a := range uses {
			for b := range uses {
				step(a, b)
			}
		}
	case optimize.StepBranch, optimize.StepJoin:
		for a := range f.Blocks {
			step(a, 0)
			if kind == optimize.StepBranch {
				step(a, 1)
			}
		}
	case optimize.StepDirect:
		for a := range uses {
			for _, g := range p.Funcs {
				l = append(l, optimize.Step{Kind: kind, Func: n, A: a, Text: g.Name})
			}
		}
	case optimize.StepFold:
		l = folds(f, n)
	default:
		for a := range uses {
			step(a, 0)
		}
	}
	return l
}

// folds returns the steps that fold instructions, with what they might give.
func folds(f ssa.Func, n int) []optimize.Step {
	lits := map[int]api.Value{}
	var l []optimize.Step
	for _, b := range f.Blocks {
		for _, x := range b.Ins {
			if x.Op == ssa.Const {
				lits[x.Result] = x.Lit
			}
		}
	}
	for _, b := range f.Blocks {
		for _, x := range b.Ins {
			var args []api.Value
			for _, v := range x.Args {
				args = append(args, lits[v])
			}
			typ, method, _ := strings.Cut(x.Text, ".")
			v, _, _ := num.Call(typ, method, args)
			for _, lit := range []api.Value{v, {Kind: api.ValBool}, {Kind: api.ValBool, Lo: 1}} {
				l = append(l, optimize.Step{Kind: optimize.StepFold, Func: n, A: x.Result, Lit: lit})
			}
		}
	}
	return l
}

// alike compares two values of any type; nil and empty lists are equal.
func alike(a, b any) bool { return equal(reflect.ValueOf(a), reflect.ValueOf(b)) }

func equal(a, b reflect.Value) bool {
	switch a.Kind() {
	case reflect.Slice:
		if a.Len() != b.Len() {
			return false
		}
		for i := range a.Len() {
			if !equal(a.Index(i), b.Index(i)) {
				return false
			}
		}
		return true
	case reflect.Struct:
		for i := range a.NumField() {
			if !equal(a.Field(i), b.Field(i)) {
				return false
			}
		}
		return true
	}
	return a.Equal(b)
}
