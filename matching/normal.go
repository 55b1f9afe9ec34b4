package matching

import (
	"cmp"
	"slices"

	"hackamore/api"
)

// compare returns the order of two patterns.
func compare(p, q Pattern) int { return slices.CompareFunc(p, q, compareParts) }

func compareParts(a, b Part) int {
	if order := cmp.Compare(len(a.Kids), len(b.Kids)); order != 0 {
		return order
	}
	if len(a.Kids) == 0 {
		return slices.Compare(a.Leaves, b.Leaves)
	}
	return slices.CompareFunc(a.Kids, b.Kids, compare)
}

// result returns the normal form of a set, unless it is too large.
func (s *store) result(n int) (Pattern, api.Errno) {
	if s.count(n) > maxResult {
		return nil, api.ErrLarge
	}
	return copied(s.pattern(n)), api.OK
}

func copied(p Pattern) Pattern {
	var c Pattern
	for _, part := range p {
		var kids []Pattern
		for _, k := range part.Kids {
			kids = append(kids, copied(k))
		}
		c = append(c, Part{slices.Clone(part.Leaves), kids})
	}
	return c
}

// few returns a count, or another one that is too large as well.
func few(n int) int { return min(n, maxResult+1) }

// count returns how many parts the normal form of a set has, with those of all patterns in it.
func (s *store) count(n int) int {
	if c, ok := s.counts[n]; ok {
		return c
	}
	x, c := s.sets[n], 0
	if x.leaves != (leafSet{}) {
		c = 1
	}
	for _, r := range x.tuples {
		lists, parts := s.countRow(r)
		c = few(c + lists + parts)
	}
	s.counts[n] = c
	return c
}

// countRow returns how many parts make a row, and how many parts the patterns of their elements have.
func (s *store) countRow(n int) (lists, parts int) {
	if n == end {
		return 1, 0
	}
	for _, g := range s.rows[n] {
		l, p := s.countRow(g.rest)
		lists = few(lists + l)
		parts = few(parts + p + few(l*s.count(g.first)))
	}
	return lists, parts
}

// pattern returns the normal form of a set, whose kids are those of other ones.
func (s *store) pattern(n int) Pattern {
	if p, ok := s.patterns[n]; ok {
		return p
	}
	var p Pattern
	if x := s.sets[n]; x.leaves != (leafSet{}) {
		p = Pattern{{Leaves: slices.Collect(x.leaves.all())}}
	}
	for _, r := range s.sets[n].tuples {
		for _, kids := range s.lists(r) {
			p = append(p, Part{Kids: kids})
		}
	}
	slices.SortFunc(p, compareParts)
	s.patterns[n] = p
	return p
}

// lists returns the normal forms of the elements of a row's lists, for each part that makes it.
func (s *store) lists(n int) [][]Pattern {
	if n == end {
		return [][]Pattern{nil}
	}
	var l [][]Pattern
	for _, g := range s.rows[n] {
		first := s.pattern(g.first)
		for _, rest := range s.lists(g.rest) {
			l = append(l, append([]Pattern{first}, rest...))
		}
	}
	return l
}

// first returns the first value of the first part of the normal form of a set.
func (s *store) first(n int) Value {
	x := s.sets[n]
	for leaf := range x.leaves.all() {
		return Value{Leaf: leaf}
	}
	for _, r := range x.tuples {
		if r != nothing {
			return Value{Kids: s.firstOf(r)}
		}
	}
	return Value{}
}

// firstOf returns the first values of the elements of the first part that makes a row.
func (s *store) firstOf(n int) []Value {
	var l []Value
	for n != end {
		g := slices.MinFunc(s.rows[n], func(a, b group) int { return compare(s.pattern(a.first), s.pattern(b.first)) })
		l = append(l, s.first(g.first))
		n = g.rest
	}
	return l
}
