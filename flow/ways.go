package flow

import (
	"maps"
	"slices"
)

// slot is a local variable, or a field of a constructor.
type slot struct {
	field bool
	name  string
}

// What a way does to a variable, in bits: one that has neither of the first two leaves it with a value, or without one,
// as it was; one that has neither of the others leaves it assigned, or not, as it was.
const (
	valued = 1 << iota
	unvalued
	assigned
	unassigned
)

const (
	values      = valued | unvalued
	assignments = assigned | unassigned
)

// way is a way through an expression, if it is open, with what it does to variables. At the beginning of a method no
// variable has a value or was assigned, so that a way from there says what has a value. Its map never changes.
type way struct {
	open bool
	does map[slot]uint8
}

func (w way) has(s slot) bool { return w.does[s]&valued != 0 }

func (w way) wasAssigned(s slot) bool { return w.does[s]&assigned != 0 }

// locals returns the names of the local variables that have a value, ascending.
func (w way) locals() []string {
	var l []string
	for s := range w.does {
		if !s.field && w.has(s) {
			l = append(l, s.name)
		}
	}
	slices.Sort(l)
	return l
}

// with returns the way that goes on by doing something to a variable.
func (w way) with(s slot, does uint8) way {
	return w.then(way{true, map[slot]uint8{s: does}})
}

// then returns the way that goes on by another one.
func (w way) then(next way) way {
	switch {
	case !w.open || !next.open:
		return way{}
	case len(next.does) == 0:
		return w
	}
	both := maps.Clone(w.does)
	if both == nil {
		both = map[slot]uint8{}
	}
	for s, does := range next.does {
		old := both[s]
		if does&values != 0 {
			old &^= values
		}
		if does&assignments != 0 {
			old &^= assignments
		}
		both[s] = old | does
	}
	return way{true, both}
}

// join returns the way that stands for several ones, where they meet.
func join(l ...way) way {
	var all way
	meet := func(w way) {
		if !all.open {
			all = w
			return
		}
		both := map[slot]uint8{}
		for s, does := range all.does {
			both[s] = met(does, w.does[s])
		}
		for s, does := range w.does {
			both[s] = met(does, all.does[s])
		}
		all = way{true, both}
	}
	for _, w := range l {
		if w.open {
			meet(w)
		}
	}
	return all
}

// met returns what is done to a variable by one of two ways: it has a value if it has one on both of them, and may have
// been assigned if it may on one.
func met(a, b uint8) uint8 {
	return (a|b)&(unvalued|assigned) | a&b&(valued|unassigned)
}

// leaves are the ways by which an expression is left before its end.
type leaves struct{ failed, returned, broken, continued way }

// joined returns the leaves of one expression or of another one.
func (l leaves) joined(m leaves) leaves {
	return leaves{join(l.failed, m.failed), join(l.returned, m.returned), join(l.broken, m.broken), join(l.continued, m.continued)}
}

// each returns the leaves with each way as a function returns it.
func (l leaves) each(do func(w way) way) leaves {
	return leaves{do(l.failed), do(l.returned), do(l.broken), do(l.continued)}
}

// ways are all the ways by which an expression is left; passed is that of a case that is not taken.
type ways struct {
	end, passed way
	leaves
}

// after returns the ways of an expression that is reached by a way.
func (w ways) after(in way) ways {
	do := func(next way) way { return in.then(next) }
	return ways{do(w.end), do(w.passed), w.leaves.each(do)}
}
