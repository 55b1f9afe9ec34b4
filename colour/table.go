package colour

import "hackamore/api"

// empty is a place at which nothing stands.
func empty() Slot { return Slot{-1, -1} }

// table returns the table of a class.
func table(class []Entry, colours []int) []Slot {
	var l []Slot
	for _, x := range class {
		c := colours[x.Selector]
		for len(l) <= c {
			l = append(l, empty())
		}
		l[c] = Slot(x)
	}
	return l
}

// Table returns the vector of a class.
func Table(w World, colours []int, class int) ([]Slot, api.Errno) {
	if e := CheckColours(w, colours); e != api.OK {
		return nil, e
	}
	if !isBelow(class, len(w.Classes)) {
		return nil, api.ErrNone
	}
	return table(w.Classes[class], colours), api.OK
}

// Pack returns one vector for all classes, and where each one's part begins.
func Pack(w World, colours []int) ([]Slot, []int, api.Errno) {
	if e := CheckColours(w, colours); e != api.OK {
		return nil, nil, e
	}
	var vector []Slot
	var offsets []int
	given := make(map[int]bool)
	for _, class := range w.Classes {
		l := table(class, colours)
		offset := 0
		for given[offset] || !isFree(vector, l, offset) {
			offset++
		}
		given[offset] = true
		offsets = append(offsets, offset)
		for len(vector) < offset+len(l) {
			vector = append(vector, empty())
		}
		for i, s := range l {
			if s.Selector >= 0 {
				vector[offset+i] = s
			}
		}
	}
	return vector, offsets, api.OK
}

// isFree reports whether a table fits into the free places of a vector.
func isFree(vector, l []Slot, offset int) bool {
	for i, s := range l {
		if s.Selector >= 0 && offset+i < len(vector) && vector[offset+i].Selector >= 0 {
			return false
		}
	}
	return true
}

// Lookup returns the method of a class for a selector, by a packed vector; -1 for none.
func Lookup(vector []Slot, offsets, colours []int, class, selector int) int {
	if !isBelow(class, len(offsets)) || !isBelow(selector, len(colours)) || colours[selector] < 0 {
		return -1
	}
	at := offsets[class] + colours[selector]
	if !isBelow(at, len(vector)) || vector[at].Selector != selector {
		return -1
	}
	return vector[at].Method
}
