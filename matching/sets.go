package matching

import (
	"iter"
	"math/bits"
	"slices"
	"strconv"
)

// leafSet is a set of leaves, in bits.
type leafSet [4]uint64

// all hands on the leaves, ascending.
func (l leafSet) all() iter.Seq[int] {
	return func(yield func(int) bool) {
		for i, word := range l {
			for ; word != 0; word &= word - 1 {
				if !yield(64*i + bits.TrailingZeros64(word)) {
					return
				}
			}
		}
	}
}

func (l leafSet) has(leaf int) bool { return l[leaf/64]>>(leaf%64)&1 != 0 }

// set is a set of values: of leaves, and, for each number of elements from 2 on, of tuples, by the number of their row.
type set struct {
	leaves leafSet
	tuples [maxArity - 1]int
}

// group is a part of a row: the elements that can stand first, a set, and the row of what can stand behind each of them.
type group struct{ first, rest int }

// row is a set of lists of values that are equally long: its groups have no first elements together, and no two of them
// the same rest.
type row []group

// The first numbers of sets and rows.
const (
	nothing = 0 // the set, and the row, without anything
	end     = 1 // the row that has the empty list alone
)

// operation is what is done with two sets.
type operation int

const (
	both operation = iota
	less
	either
)

// job is an operation with two sets, or two rows, by their numbers.
type job struct {
	do   operation
	a, b int
}

// store has sets and rows by numbers. Equal ones have the same number, since each one is divided in one way alone.
type store struct {
	sets     []set
	setOf    map[set]int
	rows     []row
	rowOf    map[string]int
	setsDone map[job]int
	rowsDone map[job]int
	patterns map[int]Pattern
	counts   map[int]int
}

func newStore() *store {
	return &store{
		sets: []set{{}}, setOf: map[set]int{{}: nothing},
		rows: []row{nil, nil}, rowOf: map[string]int{"": nothing},
		setsDone: map[job]int{}, rowsDone: map[job]int{},
		patterns: map[int]Pattern{}, counts: map[int]int{},
	}
}

// put returns the number of a set.
func (s *store) put(x set) int {
	n, ok := s.setOf[x]
	if !ok {
		n = len(s.sets)
		s.sets = append(s.sets, x)
		s.setOf[x] = n
	}
	return n
}

// putRow returns the number of the row with these first elements by what stands behind them.
func (s *store) putRow(firsts map[int]int) int {
	var r row
	for rest, first := range firsts {
		if first != nothing && rest != nothing {
			r = append(r, group{first, rest})
		}
	}
	slices.SortFunc(r, func(a, b group) int { return a.rest - b.rest })
	var key []byte
	for _, g := range r {
		key = strconv.AppendInt(append(key, ' '), int64(g.first), 10)
		key = strconv.AppendInt(append(key, ' '), int64(g.rest), 10)
	}
	n, ok := s.rowOf[string(key)]
	if !ok {
		n = len(s.rows)
		s.rows = append(s.rows, r)
		s.rowOf[string(key)] = n
	}
	return n
}

// of returns the set of the values that a pattern takes.
func (s *store) of(p Pattern) int {
	all := nothing
	for _, part := range p {
		one := s.ofPart(part)
		all = s.mix(either, all, one)
	}
	return all
}

func (s *store) ofPart(part Part) int {
	var x set
	for _, leaf := range part.Leaves {
		x.leaves[leaf/64] |= 1 << (leaf % 64)
	}
	if len(part.Kids) > 0 {
		x.tuples[len(part.Kids)-2] = s.line(part.Kids)
	}
	return s.put(x)
}

// line returns the row of the lists whose elements patterns take, one by one.
func (s *store) line(l []Pattern) int {
	r := end
	for _, p := range slices.Backward(l) {
		first := s.of(p)
		r = s.putRow(map[int]int{r: first})
	}
	return r
}

// known returns the result of an operation that is plain.
func (j job) known() (int, bool) {
	switch {
	case j.a == j.b && j.do == less || j.a == nothing && j.do != either || j.b == nothing && j.do == both:
		return nothing, true
	case j.a == j.b || j.b == nothing:
		return j.a, true
	case j.a == nothing:
		return j.b, true
	}
	return 0, false
}

// mix does an operation with two sets.
func (s *store) mix(do operation, a, b int) int {
	j := job{do, a, b}
	if r, ok := j.known(); ok {
		return r
	}
	x, y := s.sets[a], s.sets[b]
	deep := x.tuples != y.tuples || x.tuples != [maxArity - 1]int{} // otherwise it is done as fast as it is found
	if deep {
		if r, ok := s.setsDone[j]; ok {
			return r
		}
	}
	for i, word := range y.leaves {
		switch do {
		case both:
			x.leaves[i] &= word
		case less:
			x.leaves[i] &^= word
		case either:
			x.leaves[i] |= word
		}
	}
	for i, r := range y.tuples {
		x.tuples[i] = s.mixRows(do, x.tuples[i], r)
	}
	r := s.put(x)
	if deep {
		s.setsDone[j] = r
	}
	return r
}

// mixRows does an operation with two rows of equally long lists.
func (s *store) mixRows(do operation, a, b int) int {
	j := job{do, a, b}
	if r, ok := j.known(); ok {
		return r
	}
	if r, ok := s.rowsDone[j]; ok {
		return r
	}
	firsts := map[int]int{}
	add := func(first, rest int) {
		if first != nothing && rest != nothing {
			firsts[rest] = s.mix(either, firsts[rest], first)
		}
	}
	right := nothing
	for _, h := range s.rows[b] {
		right = s.mix(either, right, h.first)
	}
	left := nothing
	for _, g := range s.rows[a] {
		left = s.mix(either, left, g.first)
		for _, h := range s.rows[b] {
			if first := s.mix(both, g.first, h.first); first != nothing {
				add(first, s.mixRows(do, g.rest, h.rest))
			}
		}
		add(s.mix(less, g.first, right), s.mixRows(do, g.rest, nothing))
	}
	for _, h := range s.rows[b] {
		add(s.mix(less, h.first, left), s.mixRows(do, nothing, h.rest))
	}
	r := s.putRow(firsts)
	s.rowsDone[j] = r
	return r
}
