package subtype

import (
	"iter"
	"slices"

	"hackamore/api"
	"hackamore/cap"
	"hackamore/types"
	"hackamore/walk"
)

// Find returns the index of an entity.
func Find(p []api.Entity, name string) (int, api.Errno) {
	if i := slices.IndexFunc(p, func(e api.Entity) bool { return e.Name == name }); i >= 0 {
		return i, api.OK
	}
	return 0, api.ErrNone
}

// entity returns the entity whose type a name is.
func entity(p []api.Entity, t api.Type) (api.Entity, bool) {
	i, e := Find(p, t.Name)
	if t.Kind != api.TypeName || e != api.OK || len(p[i].Bounds) != len(t.Args) {
		return api.Entity{}, false
	}
	return p[i], true
}

func boundNames(l []api.Bound) []string {
	var names []string
	for _, b := range l {
		names = append(names, b.Name)
	}
	return names
}

// supers hands on the supertypes of the type of a name, with their numbers.
func supers(p []api.Entity, t api.Type) iter.Seq2[int, api.Type] {
	return func(yield func(int, api.Type) bool) {
		found := []api.Type{t}
		for i := 0; i < len(found); i++ {
			if !yield(i, found[i]) {
				return
			}
			e, _ := entity(p, found[i])
			for _, above := range e.Provides {
				s, wrong := types.Subst(above, boundNames(e.Bounds), found[i].Args)
				s.Cap, s.Mark = t.Cap, t.Mark
				if _, ok := entity(p, s); !ok || wrong != api.OK || len(found) == MaxSupers {
					continue
				}
				if !slices.ContainsFunc(found, func(f api.Type) bool { return types.Equal(f, s) }) {
					found = append(found, s)
				}
			}
		}
	}
}

// declared hands on the methods of the type of a name, those of its supertypes, too, as often as they are declared.
func declared(p []api.Entity, t api.Type, wanted func(name string) bool) iter.Seq[api.Method] {
	return func(yield func(api.Method) bool) {
		for _, s := range supers(p, t) {
			e, _ := entity(p, s)
			for _, m := range e.Methods {
				if !wanted(m.Name) {
					continue
				}
				if m, wrong := types.Method(m, boundNames(e.Bounds), s.Args); wrong == api.OK && !yield(m) {
					return
				}
			}
		}
	}
}

// methods returns the methods of the type of a name, each name once.
func methods(p []api.Entity, t api.Type) []api.Method {
	var l []api.Method
	seen := map[string]bool{}
	for m := range declared(p, t, func(name string) bool { return !seen[name] }) {
		seen[m.Name] = true
		l = append(l, m)
	}
	return l
}

// wrongEntity returns the error that Supers and Methods tell.
func wrongEntity(p []api.Entity, t api.Type) api.Errno {
	if e := types.Check(t); e != api.OK {
		return e
	}
	if len(p) > api.MaxUnits {
		return api.ErrSize
	}
	if t.Kind != api.TypeName {
		return api.ErrType
	}
	if _, e := Find(p, t.Name); e != api.OK {
		return api.ErrNone
	}
	if _, ok := entity(p, t); !ok {
		return api.ErrSize
	}
	return api.OK
}

// Supers returns all supertypes that an entity's type has by name, itself first.
func Supers(p []api.Entity, t api.Type) ([]api.Type, api.Errno) {
	if e := wrongEntity(p, t); e != api.OK {
		return nil, e
	}
	var l []api.Type
	for _, s := range supers(p, t) {
		l = append(l, walk.Type(s))
	}
	return l, api.OK
}

// Methods returns all methods that values of an entity's type have.
func Methods(p []api.Entity, t api.Type) ([]api.Method, api.Errno) {
	if e := wrongEntity(p, t); e != api.OK {
		return nil, e
	}
	return methods(p, t), api.OK
}

// Lookup returns a method that values of a type have.
func Lookup(p []api.Entity, t api.Type, name string) (api.Method, api.Errno) {
	if e := types.Check(t); e != api.OK {
		return api.Method{}, e
	}
	if len(p) > api.MaxUnits {
		return api.Method{}, api.ErrSize
	}
	if m, ok := lookup(p, t, name); ok {
		return m, api.OK
	}
	return api.Method{}, api.ErrNone
}

func lookup(p []api.Entity, t api.Type, name string) (api.Method, bool) {
	switch t.Kind {
	case api.TypeName:
		for m := range declared(p, t, func(n string) bool { return n == name }) {
			return m, true
		}
	case api.TypeBoth:
		for _, a := range t.Args {
			if m, ok := lookup(p, a, name); ok {
				return m, true
			}
		}
	case api.TypeUnion:
		first, ok := lookup(p, t.Args[0], name)
		for _, a := range t.Args[1:] {
			m, has := lookup(p, a, name)
			ok = ok && has && alike(first, m)
		}
		if ok {
			return first, true
		}
	}
	return api.Method{}, false
}

// alike reports whether two methods are equal but for their bodies.
func alike(a, b api.Method) bool {
	return a.Kind == b.Kind && a.Name == b.Name && a.Cap == b.Cap && a.Partial == b.Partial && types.Equal(a.Result, b.Result) &&
		slices.EqualFunc(a.Bounds, b.Bounds, func(a, b api.Bound) bool { return a.Name == b.Name && types.Equal(a.Type, b.Type) }) &&
		slices.EqualFunc(a.Params, b.Params, func(a, b api.Param) bool { return a.Name == b.Name && types.Equal(a.Type, b.Type) })
}

// pair is two types of which the first one is asked to be a subtype of the second one.
type pair struct{ a, b api.Type }

// between returns the questions whether a method may stand in the place of another one; false, if it may not by what is
// known without questions.
func between(m, n api.Method, bare bool) ([]pair, bool) {
	if m.Kind != n.Kind || m.Name != n.Name || len(m.Params) != len(n.Params) || len(m.Bounds) != len(n.Bounds) || m.Partial && !n.Partial {
		return nil, false
	}
	if m.Kind == api.Fun && !bare && !cap.Fits(n.Cap, api.Plain, m.Cap, api.Plain) {
		return nil, false
	}
	if m.Kind == api.New && !cap.Fits(m.Cap, api.Ephemeral, n.Cap, api.Plain) {
		return nil, false
	}
	left, ok := signed(m, nil)
	right, also := signed(n, m.Bounds)
	if !ok || !also || len(left.result) != len(right.result) || !slices.EqualFunc(left.bounds, right.bounds, types.Equal) {
		return nil, false
	}
	var l []pair
	for i, x := range right.params {
		l = append(l, pair{x, left.params[i]})
	}
	for i, x := range left.result {
		l = append(l, pair{x, right.result[i]})
	}
	return l, true
}

// signature is what a method's types mean for the receiver that it declares; a result that is the zero Type is left out.
type signature struct{ bounds, params, result []api.Type }

// signed returns the signature of a method, with other names for its type parameters, if there are such ones; false,
// if a type has an error then.
func signed(m api.Method, names []api.Bound) (s signature, ok bool) {
	receiver := api.Tag
	if m.Kind == api.Fun {
		receiver = m.Cap
	}
	var renamed []api.Type
	for _, b := range names {
		renamed = append(renamed, api.Type{Kind: api.TypeParam, Name: b.Name})
	}
	ok = true
	put := func(l *[]api.Type, t api.Type) {
		e := api.OK
		if len(renamed) > 0 {
			t, e = types.Subst(t, boundNames(m.Bounds), renamed)
		}
		if e == api.OK {
			t, e = types.Self(t, receiver, api.Plain)
		}
		*l = append(*l, t)
		ok = ok && e == api.OK
	}
	for _, b := range m.Bounds {
		put(&s.bounds, b.Type)
	}
	for _, x := range m.Params {
		put(&s.params, x.Type)
	}
	if !walk.IsZero(m.Result) {
		put(&s.result, m.Result)
	}
	return s, ok
}
