package flow

import (
	"slices"
	"strconv"

	"hackamore/api"
	"hackamore/walk"
)

// node is a node of a body, with what its place says of it.
type node struct {
	op     int
	text   string
	path   []int
	kids   []*node // nil for one that is none
	place          // what its place says
	throws bool    // a call that may end with an error
	ways   ways    // how it is left, if it is reached by a way on which nothing has happened
}

// place is what the place of a node says of it.
type place struct {
	used   bool // its value
	caught bool // an error leads to an OpTry
	looped bool // a break leads to the end of an OpWhile
	origin bool // the first kid of an OpGet or an OpSet
}

// at returns the node at a path.
func (n *node) at(path []int) *node {
	for _, i := range path {
		n = n.kids[i]
	}
	return n
}

// key returns a text of a path.
func key(path []int) string {
	var b []byte
	for _, i := range path {
		b = append(strconv.AppendInt(b, int64(i), 10), '.')
	}
	return string(b)
}

// kidCounts returns the least and the greatest number of kids of each operation.
func kidCounts() [api.OpLast + 1][2]int {
	const many = api.MaxNodes
	return [api.OpLast + 1][2]int{
		api.OpGet: {1, 1}, api.OpSet: {2, 2}, api.OpVar: {0, 1}, api.OpLet: {0, 1}, api.OpAssign: {1, 1}, api.OpSeq: {0, many},
		api.OpIf: {3, 3}, api.OpWhile: {3, 3}, api.OpMatch: {1, many}, api.OpCase: {2, 2}, api.OpTry: {3, 3}, api.OpReturn: {0, 1},
		api.OpCall: {1, many}, api.OpNew: {0, many}, api.OpRecover: {1, 1}, api.OpTuple: {0, many}, api.OpItem: {1, 1}, api.OpIs: {2, 2},
	}
}

// mayLack reports whether a kid of an operation may be none.
func mayLack(op, kid int) bool {
	switch op {
	case api.OpIf, api.OpWhile:
		return kid == 2
	case api.OpTry:
		return kid > 0
	case api.OpCase:
		return kid == 0
	}
	return false
}

// wrongBody returns the error of an expression.
func wrongBody(x api.Expr) api.Errno {
	if !walk.Small(x, api.MaxNodes, api.MaxTree) {
		return api.ErrSize
	}
	counts := kidCounts()
	var right func(x api.Expr) bool
	right = func(x api.Expr) bool {
		if x.Op < 1 || x.Op > api.OpLast || len(x.Kids) < counts[x.Op][0] || len(x.Kids) > counts[x.Op][1] {
			return false
		}
		for i, k := range x.Kids {
			if walk.IsNone(k) && mayLack(x.Op, i) {
				continue
			}
			if (x.Op == api.OpMatch && i > 0) != (k.Op == api.OpCase) || !right(k) {
				return false
			}
		}
		return true
	}
	if x.Op == api.OpCase || !right(x) {
		return api.ErrForm
	}
	return api.OK
}

// planter makes the nodes of a body.
type planter struct {
	fun    bool            // whether the method is a Fun
	throws map[string]bool // the keys of the calls that may end with an error
}

func (p planter) plant(x api.Expr, path []int, at place) *node {
	n := &node{op: x.Op, text: x.Text, path: path, place: at}
	n.throws = (x.Op == api.OpCall || x.Op == api.OpNew) && p.throws[key(path)]
	for i, k := range x.Kids {
		var kid *node
		if !walk.IsNone(k) {
			kid = p.plant(k, append(slices.Clip(path), i), p.place(x, i, at))
		}
		n.kids = append(n.kids, kid)
	}
	return n
}

// place returns what the place of a kid says of it.
func (p planter) place(x api.Expr, kid int, at place) place {
	k := place{used: true, caught: at.caught, looped: at.looped}
	switch x.Op {
	case api.OpGet, api.OpSet:
		k.origin = kid == 0
	case api.OpSeq:
		k.used = at.used && kid == len(x.Kids)-1
	case api.OpIf, api.OpMatch, api.OpCase:
		k.used = at.used || kid == 0
	case api.OpWhile:
		k.used = at.used || kid == 0
		k.looped = at.looped || kid < 2
	case api.OpTry:
		k.used = at.used && kid < 2
		k.caught = at.caught || kid == 0
	case api.OpReturn:
		k.used = p.fun
	case api.OpRecover:
		k.used = at.used
	}
	return k
}
