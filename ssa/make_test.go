package ssa_test

import (
	"reflect"
	"testing"

	"hackamore/api"
	"hackamore/graphs"
	"hackamore/ssa"
)

// alike compares two values of any type; nil and empty lists are equal.
func alike(a, b any) bool { return equal(reflect.ValueOf(a), reflect.ValueOf(b)) }

func equal(a, b reflect.Value) bool {
	switch a.Kind() {
	case reflect.Slice:
		if a.Len() != b.Len() {
			return false
		}
		for i := range a.Len() {
			if !equal(a.Index(i), b.Index(i)) {
				return false
			}
		}
		return true
	case reflect.Struct:
		for i := range a.NumField() {
			if !equal(a.Field(i), b.Field(i)) {
				return false
			}
		}
		return true
	}
	return a.Equal(b)
}

// made returns functions made by numbers, all of which are right.
func made(t *testing.T, n, blocks int, variables bool) []ssa.Func {
	t.Helper()
	var l []ssa.Func
	for seed := range n {
		m := graphs.New(uint64(seed), blocks, variables)
		f := m.Func("f", m.Below(3))
		if at, e := ssa.CheckFunc(f); e != api.OK {
			t.Fatalf("%d: error %d at %v", seed, e, at)
		}
		l = append(l, f)
	}
	return l
}

// Ends and instructions.
func jump(to int) ssa.End { return ssa.End{Kind: ssa.Jump, To: []int{to}} }

func branch(v, a, b int) ssa.End { return ssa.End{Kind: ssa.Branch, Args: []int{v}, To: []int{a, b}} }

func returns(v int) ssa.End { return ssa.End{Kind: ssa.Return, Args: []int{v}} }

func tries(call ssa.Ins, a, b int) ssa.End {
	return ssa.End{Kind: ssa.Try, Call: call, To: []int{a, b}}
}

func ins(op, result int, args ...int) ssa.Ins { return ssa.Ins{Op: op, Result: result, Args: args} }

// text returns an instruction with a Text.
func text(op, result int, s string, args ...int) ssa.Ins {
	return ssa.Ins{Op: op, Result: result, Text: s, Args: args}
}

func number(result, n int) ssa.Ins {
	return ssa.Ins{Op: ssa.Const, Result: result, Lit: api.Value{Kind: 16, Lo: uint64(n)}}
}

func block(end ssa.End, l ...ssa.Ins) ssa.Block { return ssa.Block{Ins: l, End: end} }

// function returns a function with one parameter.
func function(l ...ssa.Block) ssa.Func {
	return ssa.Func{Name: "f", Params: []api.Type{{}}, Blocks: l}
}

// diamond has a branch to 1 and 2, which jump to 3.
func diamond() ssa.Func {
	return function(block(branch(0, 1, 2)), block(jump(3), number(1, 1)), block(jump(3), number(2, 2)), block(returns(3), ins(ssa.Phi, 3, 1, 2)))
}
