package matching_test

import (
	"reflect"
	"testing"

	"hackamore/api"
	. "hackamore/matching"
	"hackamore/samples"
)

func oddPattern(m *samples.Maker, depth int) Pattern {
	var p Pattern
	for range m.Below(4) {
		var part Part
		if m.Below(2) == 0 {
			part.Leaves = []int{m.Number(), m.Number()}[:m.Below(3)]
		}
		if depth > 0 && m.Below(2) == 0 {
			for range m.Below(6) {
				part.Kids = append(part.Kids, oddPattern(m, depth-1))
			}
		}
		p = append(p, part)
	}
	return p
}

func oddValue(m *samples.Maker, depth int) Value {
	v := Value{Leaf: m.Number()}
	if depth > 0 && m.Below(2) == 0 {
		v.Leaf = 0
		for range m.Below(6) {
			v.Kids = append(v.Kids, oddValue(m, depth-1))
		}
	}
	return v
}

func oddTree(m *samples.Maker, depth int) Tree {
	t := Tree{Kind: m.Below(4), Case: m.Below(3)}
	if t.Kind == Test && m.Below(3) > 0 {
		t.Case = 0
		for range m.Below(2) {
			t.Path = append(t.Path, m.Number())
		}
		for range m.Below(3) {
			s := Sort{Arity: m.Number()}
			if m.Below(2) == 0 {
				s = Sort{Leaves: []int{m.Number()}}
			}
			t.Sorts = append(t.Sorts, s)
		}
	}
	if depth > 0 {
		for range max(len(t.Sorts), m.Below(2)) {
			t.Kids = append(t.Kids, oddTree(m, depth-1))
		}
	}
	return t
}

// TestAnything: P12.1 for any arguments: no call panics, and with an error all results are zero values.
func TestAnything(t *testing.T) {
	right := map[string]int{}
	for seed := range uint64(20000) {
		m := samples.New(seed)
		n := m.Below(7) + m.Below(2)*m.Number()
		p, q, v := oddPattern(m, 2), oddPattern(m, 1), oddValue(m, 2)
		l := []Case{{p, m.Below(2) == 0}, {q, m.Below(2) == 0}}
		holds := []bool{true, false, true}[:2+m.Below(2)]
		none := func(what string, e api.Errno, isZero bool) {
			t.Helper()
			if e != api.OK && !isZero {
				t.Fatalf("seed %d: %s: error %d with a result", seed, what, e)
			}
			if e == api.OK {
				right[what]++
			}
		}
		none("Check", Check(n, p), true)
		r, e := Normal(n, p)
		none("Normal", e, r == nil)
		r, e = Both(n, p, q)
		none("Both", e, r == nil)
		r, e = Less(n, p, q)
		none("Less", e, r == nil)
		ok, e := Takes(n, p, v)
		none("Takes", e, !ok)
		ok, e = Within(n, p, q)
		none("Within", e, !ok)
		i, e := Taken(n, l, v, holds)
		none("Taken", e, i == 0)
		ok, x, e := Exhaustive(n, q, l)
		none("Exhaustive", e, !ok && reflect.DeepEqual(x, Value{}))
		never, e := Unreachable(n, q, l)
		none("Unreachable", e, never == nil)
		tree, e := Decide(n, q, l)
		none("Decide", e, reflect.DeepEqual(tree, Tree{}))
		odd := oddTree(m, 2)
		none("CheckTree", CheckTree(n, m.Number(), odd), true)
		i, j, e := Run(n, odd, v, holds)
		none("Run", e, i == 0 && j == 0)
		program := m.OddProgram()
		Leaves(program)
		r, e = Of(program, m.AnyType(4))
		none("Of", e, r == nil)
	}
	if len(right) < 13 {
		t.Errorf("right: %v", right)
	}
}
