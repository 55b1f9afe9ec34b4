package colour

import (
	"slices"

	"hackamore/api"
)

// conflicts returns the selectors that conflict with each selector, and those that a class understands.
func conflicts(w World) (matrix, *bitset) {
	m, all := newMatrix(), new(bitset)
	for _, l := range w.Classes {
		var own bitset
		for _, x := range l {
			own.add(x.Selector)
			all.add(x.Selector)
		}
		for _, x := range l {
			row := m.row(x.Selector)
			for i := range row {
				row[i] |= own[i]
			}
			row[x.Selector/64] &^= 1 << (x.Selector % 64)
		}
	}
	return m, all
}

// Conflicts returns the pairs of selectors that one class understands.
func Conflicts(w World) ([][2]int, api.Errno) {
	if e := Check(w); e != api.OK {
		return nil, e
	}
	m, all := conflicts(w)
	var l [][2]int
	for _, s := range all.list() {
		for _, t := range m.row(s).list() {
			if s < t {
				l = append(l, [2]int{s, t})
			}
		}
	}
	return l, api.OK
}

// taken returns the colours of the selectors that conflict with one.
func taken(m matrix, colours []int, selector int) *bitset {
	used := new(bitset)
	for _, s := range m.row(selector).list() {
		if c := colours[s]; c >= 0 {
			used.add(c)
		}
	}
	return used
}

// none returns as many colours as selectors are needed, all -1.
func none(all *bitset) []int {
	l := all.list()
	if len(l) == 0 {
		return nil
	}
	return slices.Repeat([]int{-1}, l[len(l)-1]+1)
}

// Colours returns a colour for each selector, -1 for those that no class understands.
func Colours(w World) ([]int, api.Errno) {
	if e := Check(w); e != api.OK {
		return nil, e
	}
	m, all := conflicts(w)
	colours := none(all)
	for _, s := range all.list() {
		colours[s] = taken(m, colours, s).least()
	}
	return colours, api.OK
}

// CheckColours returns the error of colours.
func CheckColours(w World, colours []int) api.Errno {
	if e := Check(w); e != api.OK {
		return e
	}
	m, all := conflicts(w)
	if len(colours) != len(none(all)) {
		return api.ErrSize
	}
	for s, c := range colours {
		if all.has(s) != isBelow(c, maxColours) || !all.has(s) && c != -1 {
			return api.ErrRange
		}
	}
	for _, s := range all.list() {
		if taken(m, colours, s).has(colours[s]) {
			return ErrClash
		}
	}
	return api.OK
}

// maxLeast is for how many selectors the least number of colours is looked for.
const maxLeast = 12

// Least returns how many colours are needed at least.
func Least(w World) (int, api.Errno) {
	if e := Check(w); e != api.OK {
		return 0, e
	}
	m, all := conflicts(w)
	selectors := all.list()
	if len(selectors) > maxLeast {
		return 0, api.ErrFull
	}
	colours := none(all)
	var fits func(i, used, most int) bool
	fits = func(i, used, most int) bool {
		if i == len(selectors) {
			return true
		}
		s := selectors[i]
		busy := taken(m, colours, s)
		// A new colour is as good as any other one.
		for c := range min(used+1, most) {
			if busy.has(c) {
				continue
			}
			colours[s] = c
			if fits(i+1, max(used, c+1), most) {
				return true
			}
		}
		colours[s] = -1
		return false
	}
	// The selectors of one class conflict with each other.
	n := 0
	for _, l := range w.Classes {
		n = max(n, len(l))
	}
search:
	for {
		if fits(0, 0, n) {
			break search
		}
		n++
	}
	return n, api.OK
}

// Grow returns the colours behind another class, and the selectors whose colours have changed.
func Grow(w World, colours []int, class []Entry) (next, changed []int, e api.Errno) {
	if e := CheckColours(w, colours); e != api.OK {
		return nil, nil, e
	}
	w.Classes = append(slices.Clone(w.Classes), class)
	if e := Check(w); e != api.OK {
		return nil, nil, e
	}
	m, all := conflicts(w)
	next = none(all)
	copy(next, colours)
	for i, x := range class {
		s := x.Selector
		isTaken := slices.ContainsFunc(class[:i], func(y Entry) bool { return next[y.Selector] == next[s] })
		if next[s] >= 0 && !isTaken {
			continue
		}
		if next[s] >= 0 {
			changed = append(changed, s)
		}
		next[s] = taken(m, next, s).least()
		if next[s] >= maxColours {
			return nil, nil, api.ErrFull
		}
	}
	return next, changed, api.OK
}
