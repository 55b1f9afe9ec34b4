package located_test

import (
	"slices"
	"testing"

	"hackamore/api"
	. "hackamore/located"
	"hackamore/parser"
	"hackamore/samples"
	"hackamore/syntax"
)

func TestPaths(t *testing.T) {
	for seed := range uint64(50) {
		n := samples.New(seed).Expr(4)
		whole := Tree(n)
		if !syntax.Equal(whole.Plain(), n) {
			t.Fatal("another tree")
		}
		var visit func(k *Node, path []int)
		visit = func(k *Node, path []int) {
			part, e := syntax.At(n, k.Path())
			if e != api.OK || !slices.Equal(k.Path(), path) || !syntax.Equal(part, k.Plain()) {
				t.Fatalf("the path %v, want %v", k.Path(), path)
			}
			for i, x := range k.Kids {
				visit(x, append(slices.Clone(path), i))
			}
		}
		visit(whole, nil)
	}
	if x := Added(syntax.Name, "x"); len(x.Path()) > 0 || !x.Is(syntax.Name) {
		t.Error("a node that stands nowhere")
	}
}

func TestUpper(t *testing.T) {
	for s, want := range map[string]bool{"A": true, "_A": true, "__Ab": true, "a": false, "_a": false, "_": false, "_1": false, "_1A": false, "aA": false} {
		n := Added(syntax.Name, s)
		if IsUpper(s) != want || n.IsUpper() != want || n.IsLower() == want {
			t.Errorf("%s: %v", s, !want)
		}
	}
	if n := Added(syntax.Dot, "A"); n.IsUpper() || n.IsLower() {
		t.Error("a node that is no name")
	}
}

func TestHolds(t *testing.T) {
	flags := map[string]bool{"a": true, "b": true}
	for s, want := range map[string]bool{
		"a": true, "c": false, "true": true, "false": false, "not c": true, "not not a": true, "a and b": true, "a and c": false, "c or b": true, "c or d": false, "(a or c) and (not d)": true,
	} {
		n, _, _ := parser.Expr(s)
		if got, wrong := Holds(Tree(n), flags); got != want || wrong != nil {
			t.Errorf("%s: %v, %v", s, got, wrong)
		}
	}
	for s, path := range map[string][]int{"1": nil, "a xor b": nil, "-a": nil, "a and 1": {1}, "(1) or a": {0}, "(a and (b == c)) or 1": {0, 1}, "not a.b": {0}, "false and this": {1}} {
		n, _, _ := parser.Expr(s)
		if got, wrong := Holds(Tree(n), flags); got || wrong == nil || !slices.Equal(wrong.Path(), path) {
			t.Errorf("%s: %v, %v", s, got, wrong)
		}
	}
}
