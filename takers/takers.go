// Package takers tells which entities a type takes, for the layers that look for the methods that a call can reach.
package takers

import (
	"slices"

	"hackamore/api"
	"hackamore/bodies"
	"hackamore/subtype"
	"hackamore/types"
)

// names returns the names of the classes, actors and primitives of a program that a well-formed type takes, without regard
// to capabilities, ascending, each once.
func names(p []api.Entity, t api.Type) []string {
	var l []string
	for _, x := range p {
		if bodies.IsConcrete(x) && takes(p, t, types.Named(x.Name, api.Val, nil)) {
			l = append(l, x.Name)
		}
	}
	slices.Sort(l)
	return slices.Compact(l)
}

func takes(p []api.Entity, t, name api.Type) bool {
	does := func(a api.Type) bool { return takes(p, a, name) }
	switch t.Kind {
	case api.TypeArrow:
		return does(t.Args[1])
	case api.TypeUnion:
		return slices.ContainsFunc(t.Args, does)
	case api.TypeBoth:
		return !slices.ContainsFunc(t.Args, func(a api.Type) bool { return !does(a) })
	}
	return subtype.Bare(p, name, t)
}

// Finder finds the names for the types of one program, and remembers them.
type Finder struct {
	entities []api.Entity
	known    map[string][]string // by the texts of types
}

// New returns a finder for a program.
func New(p []api.Entity) *Finder { return &Finder{p, make(map[string][]string)} }

// Methods returns the names of the entities that a type takes, each with a dot and the name of a method behind it,
// ascending; the error of the type.
func (f *Finder) Methods(t api.Type, method string) ([]string, api.Errno) {
	text, e := types.Text(t)
	if e != api.OK {
		return nil, e
	}
	takers, ok := f.known[text]
	if !ok {
		takers = names(f.entities, t)
		f.known[text] = takers
	}
	var l []string
	for _, name := range takers {
		l = append(l, name+"."+method)
	}
	slices.Sort(l)
	return l, api.OK
}
