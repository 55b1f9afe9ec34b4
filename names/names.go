// Package names is layer 6: modules resolved to programs of entities. See shared/doc/06-names.md.
package names

import (
	"maps"
	"slices"

	"hackamore/api"
	"hackamore/parser"
	"hackamore/sugar"
	"hackamore/walk"
)

// Errors of this layer.
const (
	ErrUse     api.Errno = 80 // a package that is not there
	ErrKind    api.Errno = 81 // a name of another kind than is wanted
	ErrArity   api.Errno = 82 // another number of type arguments
	ErrCycle   api.Errno = 83 // aliases that lead to themselves, or uses in a circle
	ErrLiteral api.Errno = 84 // a literal out of the range of its type
	ErrMain    api.Errno = 85 // no main actor
)

// Source is a module: its package, its path of nodes for errors is told by its index.
type Source struct {
	Package string
	Tree    api.Node
}

// Fault is where a program is wrong: the source and the path of the node.
type Fault struct {
	Source int
	Path   []int
}

// Resolve returns the program of plain trees.
func Resolve(l []Source, flags []string) ([]api.Entity, Fault, api.Errno) {
	for i, s := range l {
		if !sugar.IsPlain(s.Tree) || !isPackage(s.Package) {
			return nil, Fault{Source: i}, api.ErrArg
		}
	}
	p, f, e := resolve(l, flags)
	if e != api.OK {
		return nil, f, e
	}
	if len(p) > api.MaxUnits || slices.ContainsFunc(p, tooLong) {
		return nil, Fault{}, api.ErrFull
	}
	return p, Fault{}, api.OK
}

// Program reads, desugars and resolves texts of modules by their packages.
func Program(texts map[string]string, flags []string) ([]api.Entity, api.Errno) {
	var l []Source
	for _, name := range slices.Sorted(maps.Keys(texts)) {
		n, _, e := parser.Parse(texts[name])
		if e != api.OK {
			return nil, e
		}
		n, _, e = sugar.Module(n, flags)
		if e != api.OK {
			return nil, e
		}
		l = append(l, Source{name, n})
	}
	p, _, e := Resolve(l, flags)
	if e != api.OK {
		return nil, e
	}
	if m, ok := Find(p, "main.Main"); !ok || !isMain(m) {
		return nil, ErrMain
	}
	return p, api.OK
}

// isMain reports whether an entity is an actor that can be made of the environment.
func isMain(m api.Entity) bool {
	for _, c := range m.Methods {
		if c.Name == "create" && c.Kind == api.New {
			return m.Kind == api.Actor && len(c.Params) == 1 && walk.SameType(c.Params[0].Type, named("Env", api.Val))
		}
	}
	return false
}

// Find returns the entity with a name.
func Find(p []api.Entity, name string) (api.Entity, bool) {
	for _, e := range p {
		if e.Name == name {
			return e, true
		}
	}
	return api.Entity{}, false
}

// Equal reports whether two programs are equal.
func Equal(a, b []api.Entity) bool { return walk.SameProgram(a, b) }
