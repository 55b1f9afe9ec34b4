package matching

import (
	"slices"
	"strconv"

	"hackamore/api"
)

// Decide returns a decision tree for cases.
func Decide(leaves int, operand Pattern, l []Case) (t Tree, e api.Errno) {
	if e := wrongMatch(leaves, operand, l); e != api.OK {
		return Tree{}, e
	}
	m := &maker{store: newStore(), done: map[string]int{}, numbers: map[string]int{}}
	defer func() {
		if r := recover(); r != nil {
			t, e = Tree{}, api.ErrFull
		}
	}()
	values := m.of(operand)
	w := work{columns: [][]int{nil}, operand: m.putRow(map[int]int{end: values})}
	for i, c := range l {
		p := m.of(c.Pattern)
		taken := m.mix(both, values, p)
		w.cases = append(w.cases, rest{i, c.Guard, m.putRow(map[int]int{end: taken})})
	}
	return m.whole(m.make(w)), api.OK
}

// rest is a case, with the row of those lists of parts that it still takes.
type rest struct {
	number int
	guard  bool
	row    int
}

// work is what is still to be decided: by the parts at some paths, of which the operand and the cases have lists.
type work struct {
	columns [][]int
	operand int
	cases   []rest
}

// key returns a text that is another one for other work.
func (w work) key() string {
	b := strconv.AppendInt(nil, int64(w.operand), 10)
	for _, c := range w.cases {
		b = strconv.AppendInt(append(b, ' '), int64(c.number), 10)
		b = strconv.AppendInt(append(b, ':'), int64(c.row), 10)
	}
	for _, path := range w.columns {
		b = append(append(b, ' '), pathKey(path)...)
	}
	return string(b)
}

// branch is a tree whose kids are told by their numbers; tests are the keys of the paths that it tests.
type branch struct {
	Tree
	kids  []int
	size  int
	tests []string
}

// maker makes trees; it panics when one becomes too large. Equal trees have the same number.
type maker struct {
	*store
	done     map[string]int // trees by the keys of work
	branches []branch
	numbers  map[string]int // trees by texts
}

// add returns the number of a tree.
func (m *maker) add(t Tree, kids []int) int {
	b := branch{t, kids, 1, nil}
	key := strconv.AppendInt(nil, int64(t.Kind), 10)
	key = strconv.AppendInt(append(key, ' '), int64(t.Case), 10)
	if t.Kind == Test {
		b.tests = append(b.tests, pathKey(t.Path))
		key = append(key, b.tests[0]...)
	}
	for i, k := range kids {
		b.size += m.branches[k].size
		b.tests = append(b.tests, m.branches[k].tests...)
		key = strconv.AppendInt(append(key, ' '), int64(k), 10)
		if t.Kind == Test {
			key = strconv.AppendInt(append(key, '/'), int64(t.Sorts[i].Arity), 10)
			for _, leaf := range t.Sorts[i].Leaves {
				key = strconv.AppendInt(append(key, ','), int64(leaf), 10)
			}
		}
	}
	if n, ok := m.numbers[string(key)]; ok {
		return n
	}
	if b.size > maxTrees {
		panic(api.ErrFull)
	}
	slices.Sort(b.tests)
	b.tests = slices.Compact(b.tests)
	m.branches = append(m.branches, b)
	m.numbers[string(key)] = len(m.branches) - 1
	return len(m.branches) - 1
}

// whole returns a tree with memory of its own.
func (m *maker) whole(n int) Tree {
	b := m.branches[n]
	t := Tree{Kind: b.Kind, Case: b.Case, Path: slices.Clone(b.Path)}
	for _, s := range b.Sorts {
		t.Sorts = append(t.Sorts, Sort{slices.Clone(s.Leaves), s.Arity})
	}
	for _, k := range b.kids {
		t.Kids = append(t.Kids, m.whole(k))
	}
	return t
}

// make returns the tree that decides.
func (m *maker) make(w work) int {
	w.cases = slices.DeleteFunc(slices.Clone(w.cases), func(c rest) bool { return c.row == nothing })
	if len(w.cases) == 0 {
		return m.add(Tree{Kind: Fail}, nil)
	}
	first := w.cases[0]
	if first.row != w.operand {
		return m.test(w)
	}
	take := Tree{Kind: Take, Case: first.number}
	if !first.guard {
		return m.add(take, nil)
	}
	w.cases = w.cases[1:]
	return m.add(take, []int{m.make(w)})
}

// test returns the tree that decides by the part at the first path, and then by all others.
func (m *maker) test(w work) int {
	key := w.key()
	if n, ok := m.done[key]; ok {
		return n
	}
	t := Tree{Kind: Test, Path: w.columns[0]}
	var kids []int
	for leaf := range m.heads(w.operand).leaves.all() {
		kid := m.make(w.behind(w.columns[1:], func(r int) int { return m.behindLeaf(r, leaf) }))
		if i := slices.Index(kids, kid); i >= 0 {
			t.Sorts[i].Leaves = append(t.Sorts[i].Leaves, leaf)
		} else {
			kids, t.Sorts = append(kids, kid), append(t.Sorts, Sort{Leaves: []int{leaf}})
		}
	}
	for i, r := range m.heads(w.operand).tuples {
		if r == nothing {
			continue
		}
		var columns [][]int
		for k := range i + 2 {
			columns = append(columns, append(slices.Clone(w.columns[0]), k))
		}
		kid := m.make(w.behind(append(columns, w.columns[1:]...), func(r int) int { return m.opened(r, i) }))
		kids, t.Sorts = append(kids, kid), append(t.Sorts, Sort{Arity: i + 2})
	}
	n := kids[0]
	if slices.Max(kids) != slices.Min(kids) || m.looksBelow(n, w.columns[0]) {
		n = m.add(t, kids)
	}
	m.done[key] = n
	return n
}

// behind returns the work with other paths, where a function says what becomes of rows.
func (w work) behind(columns [][]int, do func(r int) int) work {
	b := work{columns: columns, operand: do(w.operand)}
	for _, c := range w.cases {
		b.cases = append(b.cases, rest{c.number, c.guard, do(c.row)})
	}
	return b
}

// heads returns the set of what can stand first in a row.
func (m *maker) heads(r int) set {
	all := nothing
	for _, g := range m.rows[r] {
		all = m.mix(either, all, g.first)
	}
	return m.sets[all]
}

// behindLeaf returns the row of what stands behind a leaf in a row.
func (m *maker) behindLeaf(r, leaf int) int {
	for _, g := range m.rows[r] {
		if m.sets[g.first].leaves.has(leaf) {
			return g.rest
		}
	}
	return nothing
}

// opened returns the row of the lists of a row that begin with a tuple of i + 2 elements, with these elements in its place.
func (m *maker) opened(r, i int) int {
	all := nothing
	for _, g := range m.rows[r] {
		l := m.followed(m.sets[g.first].tuples[i], g.rest)
		all = m.mixRows(either, all, l)
	}
	return all
}

// followed returns the row of the lists of a row with those of another one behind them.
func (m *maker) followed(r, behind int) int {
	if r == end {
		return behind
	}
	firsts := map[int]int{}
	for _, g := range m.rows[r] {
		firsts[m.followed(g.rest, behind)] = g.first
	}
	return m.putRow(firsts)
}

// looksBelow reports whether a tree looks at elements of the part at a path.
func (m *maker) looksBelow(n int, path []int) bool {
	prefix := pathKey(path) + "."
	return slices.ContainsFunc(m.branches[n].tests, func(key string) bool { return len(key) > len(prefix) && key[:len(prefix)] == prefix })
}
