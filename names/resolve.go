package names

import (
	"slices"
	"strings"

	"hackamore/api"
	"hackamore/located"
	"hackamore/parser"
	"hackamore/syntax"
	"hackamore/token"
)

// fault is what a rule panics with: the error, and the node that has it.
type fault struct {
	source int
	at     *located.Node
	code   api.Errno
}

// unit is a declaration of an entity or an alias.
type unit struct {
	source int
	at     *located.Node
	name   string // that of the entity of the program
	kind   int
	cap    int
	params []string
	makes  map[string]bool // the names of constructors
	typ    *inner          // of an alias that was expanded
	asked  bool            // whether it is known which type parameter an alias stands for
	stands int             // its index, or -1
	ready  *api.Entity     // of a number type, which stands nowhere
}

func (u *unit) isAlias() bool { return u.kind == 0 }

// module is a source, with the packages that it uses.
type module struct {
	pkg  string
	tree *located.Node
	uses []string
	own  []*unit
}

// resolver has the modules, those of the builtin package ahead of all others, and the declarations of each package.
type resolver struct {
	flags   map[string]bool
	builtin int
	modules []*module
	units   map[string]map[string]*unit
	types   types
	rules   map[int]func(b *body, n *located.Node) api.Expr
}

// resolve is Resolve for sources with plain trees.
func resolve(l []Source, flags []string) (p []api.Entity, f Fault, e api.Errno) {
	r := &resolver{flags: map[string]bool{}, units: map[string]map[string]*unit{}, types: types{}, rules: rules()}
	defer func() {
		if x := recover(); x != nil {
			p, f, e = nil, Fault{}, api.ErrState
			if w, ok := x.(fault); ok {
				f, e = Fault{w.source - r.builtin, w.at.Path()}, w.code
			}
		}
	}()
	for _, s := range flags {
		r.flags[s] = true
	}
	r.addBuiltin()
	for _, s := range l {
		r.add(s.Package, s.Tree)
	}
	for i := range r.modules {
		r.declare(i)
	}
	r.cycles()
	for _, m := range r.modules {
		for _, u := range m.own {
			switch {
			case u.ready != nil:
				p = append(p, *u.ready)
			case u.isAlias():
				r.checkAlias(u)
			default:
				p = append(p, r.entity(u))
			}
		}
	}
	return p, Fault{}, api.OK
}

func (r *resolver) add(pkg string, n api.Node) {
	if r.units[pkg] == nil {
		r.units[pkg] = map[string]*unit{}
	}
	r.modules = append(r.modules, &module{pkg: pkg, tree: located.Tree(n)})
}

// addBuiltin adds the modules of the builtin package. The entities of number types are made without a text.
func (r *resolver) addBuiltin() {
	first, _, _ := parser.Parse(firstText)
	r.add("", first)
	r.add("", api.Node{Kind: syntax.Module})
	numbers := r.modules[1]
	for e := range numberEntities() {
		u := &unit{name: e.Name, kind: e.Kind, cap: e.Cap, makes: map[string]bool{"create": true}, ready: &e}
		r.units[""][u.name] = u
		numbers.own = append(numbers.own, u)
	}
	last, _, _ := parser.Parse(lastText)
	r.add("", last)
	r.builtin = len(r.modules)
}

// isPackage reports whether a text is the name of a package.
func isPackage(s string) bool {
	if s == "" {
		return true
	}
	return !slices.ContainsFunc(strings.Split(s, "/"), func(part string) bool { return !token.IsIdent(part) })
}

// declare notes what a module uses and declares.
func (r *resolver) declare(source int) {
	m := r.modules[source]
	for _, n := range m.tree.Kids {
		if n.Is(syntax.Use) {
			r.use(source, n)
			continue
		}
		units := r.units[m.pkg]
		if units[n.Text] != nil {
			panic(fault{source, n, api.ErrTwice})
		}
		units[n.Text] = newUnit(m.pkg, source, n)
		m.own = append(m.own, units[n.Text])
		distinct(source, n)
	}
}

func (r *resolver) use(source int, n *located.Node) {
	m := r.modules[source]
	holds := true
	if c := n.Kids[0]; !c.Is(syntax.Nothing) {
		ok, wrong := located.Holds(c, r.flags)
		if wrong != nil {
			panic(fault{source, n, api.ErrForm})
		}
		holds = ok
	}
	if !holds {
		return
	}
	if r.units[n.Text] == nil {
		panic(fault{source, n, ErrUse})
	}
	m.uses = append(m.uses, n.Text)
}

func newUnit(pkg string, source int, n *located.Node) *unit {
	u := &unit{source: source, at: n, name: n.Text, cap: capability(n.Kids[1].Text)}
	if pkg != "" {
		u.name = pkg + "." + n.Text
	}
	usual := api.Ref
	switch n.Kids[0].Text {
	case "class":
		u.kind = api.Class
	case "actor":
		u.kind, usual = api.Actor, api.Tag
	case "primitive":
		u.kind, usual = api.Primitive, api.Val
	case "trait":
		u.kind = api.Trait
	case "interface":
		u.kind = api.Interface
	}
	if u.cap == api.CapNone {
		u.cap = usual
	}
	for _, b := range n.Kids[2].Kids {
		u.params = append(u.params, b.Text)
	}
	u.makes = map[string]bool{}
	for _, m := range n.Kids[4:] {
		if m.Is(syntax.Method) && m.Kids[0].Text == "new" {
			u.makes[m.Text] = true
		}
	}
	return u
}

// distinct refuses names that an entity, or a method of it, has twice.
func distinct(source int, n *located.Node) {
	once := func(seen map[string]bool, l []*located.Node) {
		for _, k := range l {
			if seen[k.Text] {
				panic(fault{source, k, api.ErrTwice})
			}
			seen[k.Text] = true
		}
	}
	outer, members := map[string]bool{}, map[string]bool{}
	once(outer, n.Kids[2].Kids)
	for _, m := range n.Kids[4:] {
		once(members, []*located.Node{m})
		if !m.Is(syntax.Method) {
			continue
		}
		bounds := map[string]bool{}
		for name := range outer {
			bounds[name] = true
		}
		once(bounds, m.Kids[2].Kids)
		once(map[string]bool{}, m.Kids[3].Kids)
	}
}

// visible returns the declaration of a name that a source sees, or nil.
func (r *resolver) visible(source int, name string) *unit {
	m := r.modules[source]
	if last, plain, ok := strings.Cut(name, "."); ok {
		for _, pkg := range m.uses {
			if u := r.units[pkg][plain]; u != nil && pkg[strings.LastIndexByte(pkg, '/')+1:] == last {
				return u
			}
		}
		return nil
	}
	if u := r.units[m.pkg][name]; u != nil {
		return u
	}
	for _, pkg := range m.uses {
		if u := r.units[pkg][name]; u != nil {
			return u
		}
	}
	return r.units[""][name]
}

// view returns where the types of a declaration stand.
func (r *resolver) view(u *unit) *view {
	v := &view{r: r, source: u.source, params: map[string]bool{}}
	for _, p := range u.params {
		v.params[p] = true
	}
	return v
}

// cycles refuses the first alias that leads to itself.
func (r *resolver) cycles() {
	for _, m := range r.modules {
		for _, u := range m.own {
			if u.isAlias() && r.leadsTo(u) {
				panic(fault{u.source, u.at, ErrCycle})
			}
		}
	}
}

// leadsTo reports whether an alias names itself, or others that lead to it.
func (r *resolver) leadsTo(u *unit) bool {
	work, seen := []*unit{u}, map[string]bool{}
circle:
	for len(work) > 0 {
		from := work[0]
		work = work[1:]
		for _, to := range r.aliasesIn(r.view(from), from.at.Kids[3]) {
			switch {
			case to == u:
				seen[u.name] = true
				break circle
			case !seen[to.name]:
				seen[to.name] = true
				work = append(work, to)
			}
		}
	}
	return seen[u.name]
}

// aliasesIn returns the aliases that a type names.
func (r *resolver) aliasesIn(v *view, n *located.Node) []*unit {
	var l []*unit
	if n.Is(syntax.NamedType) {
		if _, u := v.find(n.Text); u != nil && u.isAlias() {
			l = append(l, u)
		}
	}
	for _, k := range n.Kids {
		l = append(l, r.aliasesIn(v, k)...)
	}
	return l
}

// expand returns the type of an alias with type arguments.
func (r *resolver) expand(u *unit, args []*inner) *inner {
	if u.typ == nil {
		u.typ = r.aliased(u)
	}
	by := map[string]*inner{}
	for i, p := range u.params {
		by[p] = args[i]
	}
	return r.types.replace(u.typ, by)
}

// standsFor returns the index of the type parameter of an alias that is all of its type, or -1.
func (r *resolver) standsFor(u *unit) int {
	if !u.asked {
		u.asked = true
		name, _ := r.view(u).param(u.at.Kids[3])
		u.stands = slices.Index(u.params, name)
	}
	return u.stands
}

// aliased returns the type of an alias, or an unknown one, if it is wrong.
func (r *resolver) aliased(u *unit) (t *inner) {
	defer func() {
		if recover() != nil {
			t = r.types.of(unknown, "", 0, 0)
		}
	}()
	return r.typeOf(u)
}

// typeOf resolves the type of an alias.
func (r *resolver) typeOf(u *unit) *inner {
	v := r.view(u)
	v.alias = true
	return v.typ(u.at.Kids[3], false)
}

// checkAlias tells what is wrong with the declaration of an alias.
func (r *resolver) checkAlias(u *unit) {
	v := r.view(u)
	for _, b := range u.at.Kids[2].Kids {
		v.constraint(b.Kids[0])
	}
	r.typeOf(u)
}
