package matching

import (
	"maps"
	"slices"
	"strconv"

	"hackamore/api"
)

// Kinds of decision trees.
const (
	Fail = iota // no case fits
	Take        // Case is taken, if it has no guard or this holds; otherwise Kids[0] goes on
	Test        // the part of the value at Path decides: Kids[i] goes on for what Sorts[i] says
)

// Sort is a set of leaves, or, with Arity 2 or more, tuples of so many elements.
type Sort struct {
	Leaves []int
	Arity  int
}

// Tree is a decision tree.
type Tree struct {
	Kind, Case int
	Path       []int
	Sorts      []Sort
	Kids       []Tree
}

// maxPath is how many numbers a path has at most.
const maxPath = maxDepth - 1

// CheckTree returns the error of a decision tree for so many leaves and cases.
func CheckTree(leaves, cases int, t Tree) api.Errno {
	if e := wrongLeaves(leaves); e != api.OK {
		return e
	}
	if cases < 0 || cases > maxCases {
		return api.ErrSize
	}
	c := &treeChecker{leaves: leaves, cases: cases}
	if !c.right(t, nil) {
		return ErrTree
	}
	return api.OK
}

// treeChecker checks the trees of a tree, and counts them.
type treeChecker struct{ leaves, cases, count int }

// right reports whether a tree is one, where looked has the number of elements of what was looked at on the way, by paths.
func (c *treeChecker) right(t Tree, looked map[string]int) bool {
	c.count++
	if c.count > maxTrees {
		return false
	}
	bare := len(t.Path) == 0 && len(t.Sorts) == 0
	switch t.Kind {
	case Fail:
		return bare && t.Case == 0 && len(t.Kids) == 0
	case Take:
		return bare && t.Case >= 0 && t.Case < c.cases && len(t.Kids) <= 1 && !slices.ContainsFunc(t.Kids, func(k Tree) bool { return !c.right(k, looked) })
	case Test:
		return t.Case == 0 && len(t.Sorts) == len(t.Kids) && len(t.Sorts) > 0 && c.rightSorts(t.Sorts) && mayLook(t.Path, looked) && c.rightKids(t, looked)
	}
	return false
}

// mayLook reports whether there is a part at a path, at which nothing has looked yet.
func mayLook(path []int, looked map[string]int) bool {
	if _, ok := looked[pathKey(path)]; ok || len(path) > maxPath {
		return false
	}
	if len(path) == 0 {
		return true
	}
	last := path[len(path)-1]
	return last >= 0 && last < looked[pathKey(path[:len(path)-1])]
}

func pathKey(path []int) string {
	var b []byte
	for _, i := range path {
		b = strconv.AppendInt(append(b, '.'), int64(i), 10)
	}
	return string(b)
}

// rightSorts reports whether sorts are such ones, and have nothing together.
func (c *treeChecker) rightSorts(l []Sort) bool {
	leaves, arities := map[int]bool{}, map[int]bool{}
	for _, s := range l {
		if s.Arity != 0 {
			if !isArity(s.Arity) || len(s.Leaves) > 0 || arities[s.Arity] {
				return false
			}
			arities[s.Arity] = true
			continue
		}
		if !areLeaves(c.leaves, s.Leaves) {
			return false
		}
		for _, leaf := range s.Leaves {
			if leaves[leaf] {
				return false
			}
			leaves[leaf] = true
		}
	}
	return true
}

func (c *treeChecker) rightKids(t Tree, looked map[string]int) bool {
	for i, k := range t.Kids {
		below := map[string]int{}
		maps.Copy(below, looked)
		below[pathKey(t.Path)] = t.Sorts[i].Arity
		if !c.right(k, below) {
			return false
		}
	}
	return true
}

// Run returns the case that a decision tree takes for a value, and how many tests it made.
func Run(leaves int, t Tree, v Value, holds []bool) (taken, tests int, e api.Errno) {
	if e := wrongLeaves(leaves); e != api.OK {
		return 0, 0, e
	}
	if e := wrongValue(leaves, v); e != api.OK {
		return 0, 0, e
	}
	if e := CheckTree(leaves, len(holds), t); e != api.OK {
		return 0, 0, e
	}
	for {
		switch {
		case t.Kind == Fail:
			return -1, tests, api.OK
		case t.Kind == Take && (len(t.Kids) == 0 || holds[t.Case]):
			return t.Case, tests, api.OK
		case t.Kind == Take:
			t = t.Kids[0]
			continue
		}
		tests++
		part := v
		for _, i := range t.Path {
			part = part.Kids[i]
		}
		i := slices.IndexFunc(t.Sorts, func(s Sort) bool { return s.has(part) })
		if i < 0 {
			return -1, tests, api.OK
		}
		t = t.Kids[i]
	}
}

func (s Sort) has(v Value) bool {
	if len(v.Kids) > 0 {
		return s.Arity == len(v.Kids)
	}
	return slices.Contains(s.Leaves, v.Leaf)
}
