package sugar

import (
	"cmp"
	"slices"

	"hackamore/api"
	"hackamore/located"
	"hackamore/syntax"
)

// fault is what a rule panics with: the error, and the node that has it.
type fault struct {
	at   *located.Node
	code api.Errno
}

// manyVisits is how many visits make sure that the plain tree is too large.
const manyVisits = 100000

// newEntity is an entity that was made; its type parameters may not be rewritten yet. Its number is that of its name.
type newEntity struct {
	number int
	name   string
	node   api.Node
	bounds []*bound
}

// rewriter has what the rules need: how the next fresh names are found, the entities of the module, and those that
// were made of the one that is rewritten.
type rewriter struct {
	flags      map[string]bool
	entities   map[string]*located.Node
	newLocal   func() string
	newName    func() string
	begun      int
	made       []*newEntity
	rules      [syntax.Last + 1]func(r *rewriter, n *located.Node, s *scope) api.Node
	visits     int
	doneBefore map[*located.Node]bool
}

// rewrite returns the plain tree of a module, or the path of an error.
func rewrite(m *located.Node, flags []string) (n api.Node, path []int, e api.Errno) {
	defer func() {
		if x := recover(); x != nil {
			n, path, e = api.Node{}, nil, api.ErrState
			if f, ok := x.(fault); ok {
				path, e = f.at.Path(), f.code
			}
		}
	}()
	r := newRewriter(m, flags)
	var kids []api.Node
	for _, k := range m.Kids {
		if k.Is(syntax.Use) {
			kids = append(kids, k.Plain())
			continue
		}
		r.made = nil
		kids = append(kids, r.entity(k))
		slices.SortFunc(r.made, func(a, b *newEntity) int { return cmp.Compare(a.number, b.number) })
		for _, x := range r.made {
			x.node.Kids[2] = boundsOf(x.bounds)
			kids = append(kids, x.node)
		}
	}
	return api.Node{Kind: syntax.Module, Kids: kids}, nil, api.OK
}

func newRewriter(m *located.Node, flags []string) *rewriter {
	texts := map[string]bool{}
	allTexts(m, texts)
	r := &rewriter{
		flags:      map[string]bool{},
		entities:   map[string]*located.Node{},
		newLocal:   fresh("_", texts),
		newName:    fresh("_O", texts),
		rules:      rules(),
		doneBefore: map[*located.Node]bool{},
	}
	for _, f := range flags {
		r.flags[f] = true
	}
	for _, k := range m.Kids {
		if k.Is(syntax.Entity) {
			addConstructor(k)
			if r.entities[k.Text] == nil {
				r.entities[k.Text] = k
			}
		}
	}
	return r
}

// addConstructor gives a class or an actor whose fields all have values a constructor, if it has none, ahead of its
// first method. All calls know it.
func addConstructor(n *located.Node) {
	if kind := n.Kids[0].Text; kind != "class" && kind != "actor" {
		return
	}
	place := len(n.Kids)
	for i := len(n.Kids) - 1; i >= 4; i-- {
		switch m := n.Kids[i]; {
		case m.Is(syntax.Field) && m.Kids[2].Is(syntax.Nothing), m.Is(syntax.Method) && m.Kids[0].Text == "new":
			return
		case m.Is(syntax.Method):
			place = i
		}
	}
	create := located.Added(syntax.Method, "create", located.Added(syntax.Word, "new"), located.Added(syntax.Word, ""), located.Added(syntax.Bounds, ""),
		located.Added(syntax.Params, ""), located.Added(syntax.Nothing, ""), located.Added(syntax.Word, ""), located.Added(syntax.This, ""))
	var kids []*located.Node
	kids = append(kids, n.Kids[:place]...)
	kids = append(kids, create)
	n.Kids = append(kids, n.Kids[place:]...)
}

// boundsOf returns the Bounds of an entity that was made, or of a method.
func boundsOf(l []*bound) api.Node {
	n := api.Node{Kind: syntax.Bounds}
	for _, b := range l {
		n.Kids = append(n.Kids, clone(b.node))
	}
	return n
}

// rules returns the rules by the kinds of expressions.
func rules() [syntax.Last + 1]func(r *rewriter, n *located.Node, s *scope) api.Node {
	leaf := func(r *rewriter, n *located.Node, s *scope) api.Node { return made(n.Kind, n.Text) }
	return [syntax.Last + 1]func(r *rewriter, n *located.Node, s *scope) api.Node{
		syntax.Nothing:   leaf,
		syntax.IntLit:    leaf,
		syntax.FloatLit:  leaf,
		syntax.StringLit: leaf,
		syntax.BoolLit:   leaf,
		syntax.Name:      (*rewriter).name,
		syntax.This:      leaf,
		syntax.Seq:       (*rewriter).seq,
		syntax.Decl:      (*rewriter).decl,
		syntax.Assign:    (*rewriter).assign,
		syntax.Dot:       (*rewriter).all,
		syntax.Tilde:     (*rewriter).uncalled,
		syntax.Chain:     (*rewriter).uncalled,
		syntax.Call:      (*rewriter).call,
		syntax.Named:     (*rewriter).stray,
		syntax.Qualify:   (*rewriter).qualify,
		syntax.Tuple:     (*rewriter).all,
		syntax.Array:     (*rewriter).array,
		syntax.Unary:     (*rewriter).unary,
		syntax.Binary:    (*rewriter).binary,
		syntax.As:        (*rewriter).as,
		syntax.Consume:   (*rewriter).all,
		syntax.Recover:   (*rewriter).recovered,
		syntax.If:        (*rewriter).branches,
		syntax.Ifdef:     (*rewriter).ifdef,
		syntax.While:     (*rewriter).branches,
		syntax.Repeat:    (*rewriter).repeat,
		syntax.For:       (*rewriter).loop,
		syntax.With:      (*rewriter).with,
		syntax.Match:     (*rewriter).match,
		syntax.Try:       (*rewriter).attempt,
		syntax.Error:     leaf,
		syntax.Return:    (*rewriter).all,
		syntax.Break:     leaf,
		syntax.Continue:  leaf,
		syntax.Object:    (*rewriter).object,
		syntax.Lambda:    (*rewriter).lambda,
	}
}

// expr rewrites an expression, or a Nothing.
func (r *rewriter) expr(n *located.Node, s *scope) api.Node {
	r.visits++
	return r.rules[n.Kind](r, n, s)
}

// body rewrites an expression that is a body: its declarations end with it.
func (r *rewriter) body(n *located.Node, s *scope) api.Node { return r.expr(n, s.inside()) }

// again rewrites a part that stands in several places. As soon as it is sure that the plain tree is too large, a part
// that has no error is not written once more.
func (r *rewriter) again(n *located.Node, s *scope) api.Node {
	if r.visits > manyVisits && r.doneBefore[n] {
		return this()
	}
	e := r.expr(n, s)
	r.doneBefore[n] = true
	return e
}

// typ rewrites a type, or a Nothing.
func (r *rewriter) typ(n *located.Node, f *frame) api.Node {
	r.visits++
	if n.Is(syntax.LambdaType) {
		return r.lambdaType(n, f)
	}
	return made(n.Kind, n.Text, r.typesOf(n.Kids, f)...)
}

func (r *rewriter) typesOf(l []*located.Node, f *frame) []api.Node {
	var out []api.Node
	for _, k := range l {
		out = append(out, r.typ(k, f))
	}
	return out
}

// begin takes a fresh name for an entity, ahead of those that are made of its parts.
func (r *rewriter) begin(f *frame) *newEntity {
	r.begun++
	return &newEntity{number: r.begun, name: r.newName(), bounds: f.allBounds()}
}

// end notes an entity whose parts are made.
func (r *rewriter) end(x *newEntity) { r.made = append(r.made, x) }

// typ returns the type of the entity that was made, with the names of its type parameters as arguments.
func (x *newEntity) typ(cap, mark string) api.Node {
	return joined(syntax.NamedType, x.name, boundTypes(x.bounds), word(cap), word(mark))
}

// lambdaType makes an interface with the method apply.
func (r *rewriter) lambdaType(n *located.Node, f *frame) api.Node {
	x := r.begin(f)
	defer r.end(x)
	cap, mark := n.Kids[0].Text, n.Kids[1].Text
	result := r.typ(n.Kids[3], f)
	params := api.Node{Kind: syntax.Params}
	for i, t := range n.Kids[4:] {
		params.Kids = append(params.Kids, made(syntax.Param, numbered("_a", i+1), r.typ(t, f), nothing()))
	}
	apply := made(syntax.Method, "apply", word("fun"), word(applyCap(cap)), made(syntax.Bounds, ""), params, result,
		word(n.Kids[2].Text), nothing())
	x.node = made(syntax.Entity, x.name, word("interface"), word(""), nothing(), nothing(), apply)
	return x.typ(cap, mark)
}

// applyCap returns the capability of the method apply.
func applyCap(cap string) string {
	if cap == "val" {
		return cap
	}
	return ""
}
