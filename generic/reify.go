package generic

import (
	"cmp"
	"slices"
	"strings"

	"hackamore/api"
	"hackamore/types"
	"hackamore/walk"
)

// Reify returns the program without type parameters that an actor's constructor create reaches.
func Reify(p []api.Entity, main string) ([]api.Entity, api.Errno) {
	if e := wrongProgram(p); e != api.OK {
		return nil, e
	}
	if !isMain(p, main) {
		return nil, api.ErrNone
	}
	w, e := Whole(p)
	if e != api.OK {
		return nil, e
	}
	if len(growing(edges(p))) > 0 {
		return nil, ErrGrow
	}
	r := newReifier(w)
	r.need(main, nil)
	for i, e := range w {
		if r.places[e.Name] == i && !strings.Contains(e.Name, ".") && len(e.Bounds) == 0 {
			r.need(e.Name, nil)
		}
	}
	if e := r.work(); e != api.OK {
		return nil, e
	}
	return r.program()
}

// isMain reports whether there is such an actor with a constructor create, both without type parameters.
func isMain(p []api.Entity, name string) bool {
	e, ok := find(p, name)
	return ok && e.Kind == api.Actor && len(e.Bounds) == 0 && slices.ContainsFunc(e.Methods, func(m api.Method) bool {
		return m.Kind == api.New && m.Name == "create" && len(m.Bounds) == 0
	})
}

// least is the least error that was told.
type least struct{ code api.Errno }

func (l *least) tell(e api.Errno) {
	if e != api.OK && (l.code == api.OK || e < l.code) {
		l.code = e
	}
}

// need is an entity, by its place in the program, with the type arguments that it is needed with.
type need struct {
	at   int
	args []api.Type
}

// generic is a method with type parameters of an instance, and its variants for the first of the arguments of its name.
type generic struct {
	api.Method
	done     int
	variants []api.Method
}

// made is an instance that was made; generics are its methods with type parameters, by their places.
type made struct {
	api.Entity
	at       int
	generics map[int]*generic
	count    int // its methods
}

// reifier makes what is needed of a program.
type reifier struct {
	least
	entities []api.Entity
	places   map[string]int
	known    map[string]bool // by names with type arguments
	queue    []need
	made     []*made
	asked    map[string]bool         // names of methods with type arguments
	args     map[string][][]api.Type // those that were asked for, by the names of methods
}

func newReifier(p []api.Entity) *reifier {
	r := &reifier{entities: p, places: map[string]int{}, known: map[string]bool{}, asked: map[string]bool{}, args: map[string][][]api.Type{}}
	for i, e := range p {
		if _, ok := r.places[e.Name]; !ok {
			r.places[e.Name] = i
		}
	}
	return r
}

// key returns a text of a name with normal type arguments.
func key(name string, args []api.Type) string {
	k := ""
	for _, a := range args {
		text, _ := types.Text(a)
		k += text + "\n" // there is no line feed in the text of a type
	}
	return k + "\n" + name
}

// normal returns the normal forms of type arguments.
func (r *reifier) normal(l []api.Type) ([]api.Type, bool) {
	var all []api.Type
	for _, t := range l {
		n, e := types.Normal(t)
		if e != api.OK {
			r.tell(e)
			return nil, false
		}
		all = append(all, n)
	}
	return all, true
}

// need notes that an entity is needed with type arguments; it reports whether there is such an entity.
func (r *reifier) need(name string, args []api.Type) bool {
	at, ok := r.places[name]
	switch {
	case !ok:
		r.tell(api.ErrNone)
		return false
	case len(args) != len(r.entities[at].Bounds):
		r.tell(api.ErrArg)
		return false
	}
	if args, ok := r.normal(args); ok && !r.known[key(name, args)] {
		r.known[key(name, args)] = true
		r.queue = append(r.queue, need{at, args})
	}
	return true
}

// mention notes what is needed of the names in a type.
func (r *reifier) mention(t api.Type) {
	if t.Kind == api.TypeParam {
		r.tell(ErrUnbound)
	}
	if t.Kind == api.TypeName && !r.need(t.Name, t.Args) {
		return
	}
	for _, a := range t.Args {
		r.mention(a)
	}
}

// mentionAll notes what a method needs.
func (r *reifier) mentionAll(m api.Method) {
	for t := range typesOf(m) {
		r.mention(t)
	}
	for x := range walk.Exprs(m.Body) {
		for _, t := range x.Types {
			r.mention(t)
		}
		if l := ownArgs(x); len(l) > 0 {
			r.ask(x.Text, l)
		}
	}
}

// ownArgs returns the type arguments of the method that an expression calls.
func ownArgs(x api.Expr) []api.Type {
	switch {
	case x.Op == api.OpCall:
		return x.Types
	case x.Op == api.OpNew && len(x.Types) > 1:
		return x.Types[1:]
	}
	return nil
}

// ask notes that variants of the methods with a name are needed.
func (r *reifier) ask(name string, args []api.Type) {
	_, e := Named(name, args)
	r.tell(e)
	args, ok := r.normal(args)
	if ok && !r.asked[key(name, args)] {
		r.asked[key(name, args)] = true
		r.args[name] = append(r.args[name], args)
	}
}

// work makes all that is needed; it returns ErrFull, or the least error.
func (r *reifier) work() api.Errno {
	for again := true; again; {
		for len(r.queue) > 0 {
			n := r.queue[0]
			r.queue = r.queue[1:]
			r.instance(n)
			if len(r.made) > api.MaxUnits {
				return api.ErrFull
			}
		}
		again = false
		for _, m := range r.made {
			again = r.variants(m) || again
			if m.count > api.MaxList {
				return api.ErrFull
			}
		}
	}
	return r.code
}

// instance makes an instance.
func (r *reifier) instance(n need) {
	e, wrong := instance(r.entities, r.entities[n.at], n.args)
	if wrong != api.OK {
		r.tell(wrong)
		return
	}
	m := &made{Entity: e, at: n.at, generics: map[int]*generic{}}
	r.made = append(r.made, m)
	for _, t := range e.Provides {
		r.mention(t)
	}
	for _, f := range e.Fields {
		r.mention(f.Type)
	}
	for i, x := range e.Methods {
		if len(x.Bounds) > 0 {
			m.generics[i] = &generic{Method: x}
			continue
		}
		m.count++
		r.mentionAll(x)
	}
}

// variants makes the variants of an instance's methods that are needed; it reports whether there were arguments that are new.
func (r *reifier) variants(m *made) bool {
	more := false
	for i := range m.Methods {
		g := m.generics[i]
		if g == nil {
			continue
		}
		for ; g.done < len(r.args[g.Name]) && m.count <= api.MaxList; g.done++ {
			more = true
			args := r.args[g.Name][g.done]
			if fulfils(r.entities, g.Bounds, args) != api.OK {
				continue
			}
			v, e := Variant(g.Method, args)
			if e != api.OK {
				r.tell(e)
				continue
			}
			g.variants = append(g.variants, v)
			m.count++
			r.mentionAll(v)
		}
	}
	return more
}

// program returns the program of all that was made.
func (r *reifier) program() ([]api.Entity, api.Errno) {
	slices.SortFunc(r.made, func(a, b *made) int {
		return cmp.Or(cmp.Compare(a.at, b.at), cmp.Compare(a.Name, b.Name))
	})
	var l []api.Entity
	names := map[string]bool{}
	for _, m := range r.made {
		if names[m.Name] {
			return nil, api.ErrTwice
		}
		names[m.Name] = true
		l = append(l, r.flatEntity(m))
	}
	return l, api.OK
}
