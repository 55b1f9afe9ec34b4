package cap

import (
	"cmp"
	"iter"
	"slices"

	"hackamore/api"
)

// Limits of a yard.
const (
	MaxHolders = 4
	MaxThings  = 50
	MaxHeld    = 20
)

// Held is a reference that a holder has: its object and its capability.
type Held struct{ Thing, Cap int }

// Yard has holders (actors), and objects with fields, whose capabilities are told; a field without an object has -1.
type Yard struct {
	Holders [][]Held
	Fields  [][]Held
}

// fieldCount is how many fields each thing has.
const fieldCount = 2

// NewYard returns a yard with holders that have nothing.
func NewYard(holders int) (Yard, api.Errno) {
	if holders < 1 || holders > MaxHolders {
		return Yard{}, api.ErrRange
	}
	return Yard{Holders: make([][]Held, holders)}, api.OK
}

// Check returns the error of a yard.
func Check(y Yard) api.Errno {
	if !y.small() {
		return api.ErrSize
	}
	for h := range y.all() {
		if !Is(h.Cap) {
			return api.ErrCap
		}
	}
	for h, least := range y.all() {
		if h.Thing < least || h.Thing >= len(y.Fields) {
			return api.ErrRange
		}
	}
	return api.OK
}

func (y Yard) small() bool {
	if len(y.Holders) < 1 || len(y.Holders) > MaxHolders || len(y.Fields) > MaxThings {
		return false
	}
	for _, l := range y.Holders {
		if len(l) > MaxHeld {
			return false
		}
	}
	return !slices.ContainsFunc(y.Fields, func(l []Held) bool { return len(l) != fieldCount })
}

// all hands on the references of holders, and then the fields of things, each with the least Thing that it may have.
func (y Yard) all() iter.Seq2[Held, int] {
	return func(yield func(Held, int) bool) {
		for _, l := range y.Holders {
			for _, h := range l {
				if !yield(h, 0) {
					return
				}
			}
		}
		for _, l := range y.Fields {
			for _, f := range l {
				if !yield(f, -1) {
					return
				}
			}
		}
	}
}

// copied returns the yard with memory of its own.
func (y Yard) copied() Yard {
	c := Yard{make([][]Held, len(y.Holders)), make([][]Held, len(y.Fields))}
	for i, l := range y.Holders {
		c.Holders[i] = slices.Clone(l)
	}
	for i, l := range y.Fields {
		c.Fields[i] = slices.Clone(l)
	}
	return c
}

// reach hands on each thing that a holder can reach with each capability that it has there.
func (y Yard) reach(holder int) iter.Seq[Held] {
	return func(yield func(Held) bool) {
		seen := map[Held]bool{}
		work := slices.Clone(y.Holders[holder])
		for len(work) > 0 {
			h := work[0]
			work = work[1:]
			if seen[h] {
				continue
			}
			seen[h] = true
			if !yield(h) {
				return
			}
			for _, f := range y.Fields[h.Thing] {
				if c, ok := View(h.Cap, f.Cap); ok && f.Thing >= 0 {
					work = append(work, Held{f.Thing, c})
				}
			}
		}
	}
}

func order(a, b Held) int {
	return cmp.Or(cmp.Compare(a.Thing, b.Thing), cmp.Compare(a.Cap, b.Cap))
}

// Seen returns all references that a holder has, directly or through fields.
func Seen(y Yard, holder int) []Held {
	if Check(y) != api.OK || holder < 0 || holder >= len(y.Holders) {
		return nil
	}
	return slices.SortedFunc(y.reach(holder), order)
}

// Race returns an object that one holder may write, and another one read.
func Race(y Yard) (thing, writer, reader int, found bool) {
	if Check(y) != api.OK {
		return 0, 0, 0, false
	}
	var reads, writes [MaxHolders][MaxThings]bool
	for i := range y.Holders {
		for h := range y.reach(i) {
			reads[i][h.Thing] = reads[i][h.Thing] || Reads(h.Cap)
			writes[i][h.Thing] = writes[i][h.Thing] || Writes(h.Cap)
		}
	}
	for thing := range y.Fields {
		for writer := range y.Holders {
			for reader := range y.Holders {
				if writer != reader && writes[writer][thing] && reads[reader][thing] {
					return thing, writer, reader, true
				}
			}
		}
	}
	return 0, 0, 0, false
}
