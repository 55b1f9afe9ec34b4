package matching

import (
	"hackamore/api"
	"hackamore/subtype"
)

// Leaves returns the concrete entities of a program without type parameters, which are the leaves of Of.
func Leaves(p []api.Entity) []string {
	if len(p) > api.MaxUnits {
		return nil
	}
	var l []string
	for _, e := range p {
		if isConcrete(e) {
			l = append(l, e.Name)
		}
	}
	return l
}

func isConcrete(e api.Entity) bool {
	return e.Kind == api.Class || e.Kind == api.Actor || e.Kind == api.Primitive
}

// Of returns the pattern of a type in such a program, without regard to capabilities.
func Of(p []api.Entity, t api.Type) (Pattern, api.Errno) {
	if len(p) > api.MaxUnits {
		return nil, api.ErrSize
	}
	r := &reader{store: newStore(), program: p, leaves: Leaves(p), named: map[string]int{}}
	if e := r.wrong(t, 0); e != api.OK {
		return nil, e
	}
	return r.result(r.set(t))
}

// reader makes sets of types.
type reader struct {
	*store
	program []api.Entity
	leaves  []string
	named   map[string]int // the sets of names
}

// wrong returns the first error of a type that stands within so many tuples.
func (r *reader) wrong(t api.Type, tuples int) api.Errno {
	l := t.Args
	switch t.Kind {
	case api.TypeParam, api.TypeSelf:
		return api.ErrType
	case api.TypeName:
		if len(l) > 0 {
			return api.ErrForm
		}
		if _, e := subtype.Find(r.program, t.Name); e != api.OK {
			return api.ErrNone
		}
	case api.TypeUnion, api.TypeBoth, api.TypeTuple:
		if len(l) < 2 {
			return api.ErrForm
		}
	case api.TypeArrow:
		if len(l) != 2 {
			return api.ErrForm
		}
		l = l[1:]
	default:
		return api.ErrForm
	}
	if t.Kind == api.TypeTuple {
		tuples++
		if len(l) > maxArity || tuples >= maxDepth {
			return ErrPattern
		}
	}
	for _, a := range l {
		if e := r.wrong(a, tuples); e != api.OK {
			return e
		}
	}
	return api.OK
}

// set returns the set of the values of a type.
func (r *reader) set(t api.Type) int {
	switch t.Kind {
	case api.TypeName:
		return r.name(t.Name)
	case api.TypeArrow:
		return r.set(t.Args[1])
	case api.TypeTuple:
		line := end
		for i := range t.Args {
			first := r.set(t.Args[len(t.Args)-1-i])
			line = r.putRow(map[int]int{line: first})
		}
		var x set
		x.tuples[len(t.Args)-2] = line
		return r.put(x)
	}
	do := either
	if t.Kind == api.TypeBoth {
		do = both
	}
	all := r.set(t.Args[0])
	for _, a := range t.Args[1:] {
		next := r.set(a)
		all = r.mix(do, all, next)
	}
	return all
}

// name returns the set of the values of an entity.
func (r *reader) name(name string) int {
	if n, ok := r.named[name]; ok {
		return n
	}
	at, _ := subtype.Find(r.program, name)
	whole := isConcrete(r.program[at])
	b := api.Type{Kind: api.TypeName, Name: name, Cap: api.Val}
	var x set
	for i, leaf := range r.leaves {
		a := api.Type{Kind: api.TypeName, Name: leaf, Cap: api.Val}
		if whole && leaf != name || !whole && !subtype.Bare(r.program, a, b) {
			continue
		}
		x.leaves[i/64] |= 1 << (i % 64)
		if whole {
			break
		}
	}
	n := r.put(x)
	r.named[name] = n
	return n
}
