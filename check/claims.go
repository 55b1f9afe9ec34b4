package check

import (
	"slices"

	"hackamore/api"
	"hackamore/bodies"
	"hackamore/cap"
	"hackamore/subtype"
	"hackamore/types"
)

// Claims reports whether values of a type can be bound with another one by a match.
func Claims(p []api.Entity, operand, claim api.Type) bool { return newClaims(p).hold(operand, claim) }

// claims tells what cases may claim of operands; it remembers which concrete entities are taken by types.
type claims struct {
	program  []api.Entity
	concrete []api.Type
	known    map[string][]bool
}

func newClaims(p []api.Entity) *claims {
	k := &claims{program: p, known: map[string][]bool{}}
	for _, x := range p {
		if bodies.IsConcrete(x) {
			k.concrete = append(k.concrete, types.Named(x.Name, api.Ref, nil))
		}
	}
	return k
}

// hold reports whether values of a type may be bound with another one.
func (k *claims) hold(operand, claim api.Type) bool {
	if types.Check(operand) != api.OK || types.Check(claim) != api.OK {
		return false
	}
	return k.agreeAll(operand, claim)
}

// agreeAll reports whether all alternatives of two types agree.
func (k *claims) agreeAll(a, b api.Type) bool {
	for _, x := range alternatives(a) {
		for _, y := range alternatives(b) {
			if !k.agree(x, y) {
				return false
			}
		}
	}
	return true
}

// agree reports whether two alternatives agree.
func (k *claims) agree(x, y api.Type) bool {
	left, right := x.Kind == api.TypeTuple, y.Kind == api.TypeTuple
	switch {
	case left && right:
		return len(x.Args) != len(y.Args) || inPlaces(x, y, k.agreeAll) || !inPlaces(x, y, k.common)
	case hasTuple(x) && hasTuple(y):
		return false
	case left || right:
		return true
	case !k.common(x, y):
		return true
	}
	return x.Kind == api.TypeName && y.Kind == api.TypeName && cap.Fits(x.Cap, x.Mark, y.Cap, y.Mark)
}

// common reports whether two types have something in common.
func (k *claims) common(a, b api.Type) bool {
	for _, x := range alternatives(a) {
		for _, y := range alternatives(b) {
			if k.share(x, y) {
				return true
			}
		}
	}
	return false
}

// share reports whether two alternatives have something in common.
func (k *claims) share(x, y api.Type) bool {
	if x.Kind == api.TypeTuple && y.Kind == api.TypeTuple && len(x.Args) == len(y.Args) {
		return inPlaces(x, y, k.common)
	}
	left, right := k.taken(x), k.taken(y)
	for i, is := range left {
		if is && right[i] {
			return true
		}
	}
	return false
}

// taken returns which concrete entities a type takes.
func (k *claims) taken(t api.Type) []bool {
	text, _ := types.Text(t)
	l, ok := k.known[text]
	if !ok {
		for _, c := range k.concrete {
			l = append(l, k.takes(t, c))
		}
		k.known[text] = l
	}
	return l
}

// takes reports whether a type takes a concrete entity.
func (k *claims) takes(t, c api.Type) bool {
	one := func(a api.Type) bool { return k.takes(a, c) }
	switch t.Kind {
	case api.TypeUnion:
		return slices.ContainsFunc(t.Args, one)
	case api.TypeBoth:
		return !slices.ContainsFunc(t.Args, func(a api.Type) bool { return !one(a) })
	}
	return subtype.Bare(k.program, c, t)
}

// alternatives returns the types of which a type is the union.
func alternatives(t api.Type) []api.Type {
	if t.Kind != api.TypeUnion {
		return []api.Type{t}
	}
	var l []api.Type
	for _, a := range t.Args {
		l = append(l, alternatives(a)...)
	}
	return l
}

// inPlaces reports whether something holds for the Args of two tuples, one by one.
func inPlaces(x, y api.Type, holds func(a, b api.Type) bool) bool {
	for i, a := range x.Args {
		if !holds(a, y.Args[i]) {
			return false
		}
	}
	return true
}

// hasTuple reports whether a type is a tuple, or has one among what it joins.
func hasTuple(t api.Type) bool {
	switch t.Kind {
	case api.TypeTuple:
		return true
	case api.TypeUnion, api.TypeBoth:
		return slices.ContainsFunc(t.Args, hasTuple)
	}
	return false
}
