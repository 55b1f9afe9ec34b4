package generic

import (
	"cmp"
	"iter"
	"maps"
	"slices"

	"hackamore/api"
	"hackamore/walk"
)

// Edge says that the type parameter From of an entity or a method becomes a part of an argument of the parameter To; Grows, if the argument is more than the parameter itself.
type Edge struct {
	From, To string
	Grows    bool
}

func compareEdges(a, b Edge) int {
	order := func(e Edge) int {
		if e.Grows {
			return 1
		}
		return 0
	}
	return cmp.Or(cmp.Compare(a.From, b.From), cmp.Compare(a.To, b.To), cmp.Compare(order(a), order(b)))
}

// Edges returns how type parameters flow into one another.
func Edges(p []api.Entity) ([]Edge, api.Errno) {
	if e := wrongProgram(p); e != api.OK {
		return nil, e
	}
	return edges(p), api.OK
}

func edges(p []api.Entity) []Edge {
	d := newDrawer(p)
	for _, e := range d.entities {
		for _, t := range e.Provides {
			d.mentioned(scope{Entity: e}, t)
		}
		for _, f := range e.Fields {
			d.mentioned(scope{Entity: e}, f.Type)
		}
		for _, b := range e.Bounds {
			d.mentioned(scope{Entity: e}, b.Type)
		}
		for _, m := range e.Methods {
			d.method(scope{e, &m})
		}
	}
	return slices.SortedFunc(maps.Keys(d.edges), compareEdges)
}

// scope is an entity, and perhaps a method of it, whose type parameters are in scope.
type scope struct {
	api.Entity
	method *api.Method
}

func hasBound(l []api.Bound, name string) bool {
	return slices.ContainsFunc(l, func(b api.Bound) bool { return b.Name == name })
}

// param returns how a type parameter is written.
func (s scope) param(name string) (string, bool) {
	if s.method != nil && hasBound(s.method.Bounds, name) {
		return s.Name + "." + s.method.Name + "." + name, true
	}
	return s.Name + "." + name, hasBound(s.Bounds, name)
}

// drawer draws edges between the parameters of a program.
type drawer struct {
	entities []api.Entity // those that count
	named    map[string]api.Entity
	methods  map[string][]scope // by the names of the methods
	edges    map[Edge]bool
}

func newDrawer(p []api.Entity) *drawer {
	d := &drawer{named: map[string]api.Entity{}, methods: map[string][]scope{}, edges: map[Edge]bool{}}
	for _, e := range p {
		if _, ok := d.named[e.Name]; ok {
			continue
		}
		d.named[e.Name] = e
		d.entities = append(d.entities, e)
		for _, m := range e.Methods {
			d.methods[m.Name] = append(d.methods[m.Name], scope{e, &m})
		}
	}
	return d
}

// method draws the edges of what a method mentions and calls.
func (d *drawer) method(s scope) {
	for t := range typesOf(*s.method) {
		d.mentioned(s, t)
	}
	for x := range walk.Exprs(s.method.Body) {
		for _, t := range x.Types {
			d.mentioned(s, t)
		}
		switch {
		case x.Op == api.OpCall:
			d.called(s, x.Types, d.methods[x.Text])
		case x.Op == api.OpNew && len(x.Types) > 1 && x.Types[0].Kind == api.TypeName:
			inEntity := func(other scope) bool { return other.Name != x.Types[0].Name }
			d.called(s, x.Types[1:], slices.DeleteFunc(slices.Clone(d.methods[x.Text]), inEntity))
		}
	}
}

// typesOf hands on the types of a method but those of its body.
func typesOf(m api.Method) iter.Seq[api.Type] {
	return func(yield func(api.Type) bool) {
		for _, b := range m.Bounds {
			if !yield(b.Type) {
				return
			}
		}
		for _, p := range m.Params {
			if !yield(p.Type) {
				return
			}
		}
		yield(m.Result)
	}
}

// mentioned draws the edges of the names in a type.
func (d *drawer) mentioned(s scope, t api.Type) {
	for n := range walk.Nodes(t) {
		e, ok := d.named[n.Name]
		if n.Kind != api.TypeName || !ok || len(e.Bounds) != len(n.Args) {
			continue
		}
		for i, b := range e.Bounds {
			to := scope{Entity: e}
			d.argument(s, n.Args[i], to, b.Name)
		}
	}
}

// called draws the edges of the type arguments of a method that is one of several ones.
func (d *drawer) called(s scope, args []api.Type, l []scope) {
	for _, to := range l {
		if len(to.method.Bounds) != len(args) {
			continue
		}
		for i, b := range to.method.Bounds {
			d.argument(s, args[i], to, b.Name)
		}
	}
}

// argument draws the edges from the parameters in an argument to the parameter that it is for.
func (d *drawer) argument(s scope, arg api.Type, to scope, param string) {
	target, _ := to.param(param)
	whole := true
	for n := range walk.Nodes(arg) {
		if from, ok := s.param(n.Name); ok && n.Kind == api.TypeParam {
			d.edges[Edge{from, target, !whole}] = true
		}
		whole = false
	}
}

// Ends reports whether reification ends; otherwise it returns parameters that grow in a circle.
func Ends(p []api.Entity) (bool, []string, api.Errno) {
	if e := wrongProgram(p); e != api.OK {
		return false, nil, e
	}
	l := growing(edges(p))
	return len(l) == 0, l, api.OK
}

// growing returns the parameters from which edges that grow lead into a circle on which they lie.
func growing(l []Edge) []string {
	next := map[string][]string{}
	for _, e := range l {
		next[e.From] = append(next[e.From], e.To)
	}
	circle := circles(l, next)
	var names []string
	for _, e := range l {
		if e.Grows && circle[e.From] == circle[e.To] {
			names = append(names, e.From)
		}
	}
	return slices.Compact(names)
}

// circles returns a number for each parameter, which is the same for those that lie on a circle together.
func circles(l []Edge, next map[string][]string) map[string]int {
	order, least, circle := map[string]int{}, map[string]int{}, map[string]int{}
	var stack []string
	var visit func(name string)
	visit = func(name string) {
		order[name] = len(order) + 1
		least[name] = order[name]
		stack = append(stack, name)
		for _, to := range next[name] {
			if order[to] == 0 {
				visit(to)
				least[name] = min(least[name], least[to])
			} else if circle[to] == 0 {
				least[name] = min(least[name], order[to])
			}
		}
		if least[name] < order[name] {
			return
		}
		for circle[name] == 0 {
			circle[stack[len(stack)-1]] = order[name]
			stack = stack[:len(stack)-1]
		}
	}
	for _, e := range l {
		if order[e.From] == 0 {
			visit(e.From)
		}
	}
	return circle
}
