package sugar

import (
	"hackamore/api"
	"hackamore/located"
	"hackamore/syntax"
)

// known returns the method that a call of a callee calls, if it is known.
func (r *rewriter) known(callee *located.Node, s *scope) *located.Node {
	f := s.frame
	switch {
	case !f.known:
	case callee.IsUpper():
		return r.methodOf(callee.Text, "create")
	case callee.IsLower() && isUnknown(callee.Text, s):
		return f.methods[callee.Text]
	case callee.Is(syntax.Dot):
		return r.knownIn(callee.Kids[0], callee.Text, f)
	}
	return nil
}

// knownIn returns the method with a name of a receiver, if it is known.
func (r *rewriter) knownIn(receiver *located.Node, name string, f *frame) *located.Node {
	switch {
	case !f.known:
	case receiver.IsUpper():
		return r.methodOf(receiver.Text, name)
	case receiver.Is(syntax.This) && !f.fields[name]:
		return f.methods[name]
	}
	return nil
}

// methodOf returns the method with a name of an entity of the module.
func (r *rewriter) methodOf(entity, name string) *located.Node {
	if n := r.entities[entity]; n != nil {
		return member(n.Kids[4:], syntax.Method, name)
	}
	return nil
}

// argument is an argument of a call, for the parameter with an index; Value is the expression itself.
type argument struct {
	param int
	value *located.Node
}

// arguments returns those of a call, in their order, and checks them: without a method, none may have a name. If some
// may be missing, missing is true.
func arguments(n, method *located.Node, missing bool) []argument {
	var l []argument
	given := map[int]bool{}
	for i, k := range n.Kids[2:] {
		a := argument{i, k}
		if k.Is(syntax.Named) {
			a = argument{index(method, k.Text), k.Kids[0]}
		}
		if a.param < 0 || given[a.param] || method != nil && a.param >= len(method.Kids[3].Kids) {
			panic(fault{n, ErrArgs})
		}
		given[a.param] = true
		l = append(l, a)
	}
	if method == nil || missing {
		return l
	}
	for i, p := range method.Kids[3].Kids {
		if !given[i] && p.Kids[1].Is(syntax.Nothing) {
			panic(fault{n, ErrArgs})
		}
	}
	return l
}

// index returns the index of the parameter with a name, or -1.
func index(method *located.Node, name string) int {
	if method != nil {
		for i, p := range method.Kids[3].Kids {
			if p.Text == name {
				return i
			}
		}
	}
	return -1
}

// filled rewrites arguments in the order in which they stand, then the default values of those that are missing; it
// returns them in the order of the parameters.
func (r *rewriter) filled(l []argument, method *located.Node, s *scope) []api.Node {
	count := len(l)
	if method != nil {
		count = len(method.Kids[3].Kids)
	}
	out := make([]api.Node, count)
	given := make([]bool, count)
	for _, a := range l {
		out[a.param] = r.expr(a.value, s)
		given[a.param] = true
	}
	for i := range out {
		if !given[i] {
			out[i] = r.again(method.Kids[3].Kids[i].Kids[1], withoutNames(s.frame))
		}
	}
	return out
}

// withoutNames returns the scope of a default value: it has no locals, no fields and no known methods.
func withoutNames(f *frame) *scope {
	bare := &frame{name: f.name, bounds: f.bounds, inner: f.inner}
	return bare.scope()
}

func (r *rewriter) call(n *located.Node, s *scope) api.Node {
	callee := n.Kids[0]
	switch callee.Kind {
	case syntax.Chain:
		parts, last := r.chain(n, s)
		return seq(append(parts, last)...)
	case syntax.Tilde:
		return r.partial(n, s)
	}
	method := r.known(callee, s)
	args := arguments(n, method, false)
	e := r.callee(callee, s)
	return joined(syntax.Call, "", r.filled(args, method, s), e, word(n.Kids[1].Text))
}

// callee rewrites what is called to a method of something.
func (r *rewriter) callee(n *located.Node, s *scope) api.Node {
	switch {
	case n.IsUpper():
		return dot(name(n.Text), "create")
	case n.IsLower():
		if isUnknown(n.Text, s) {
			return dot(this(), n.Text)
		}
	case n.Is(syntax.Dot):
		return r.expr(n, s)
	case n.Is(syntax.Qualify):
		return r.qualified(n, s)
	}
	return dot(r.expr(n, s), "apply")
}

// qualified rewrites a callee with type arguments.
func (r *rewriter) qualified(n *located.Node, s *scope) api.Node {
	inner := n.Kids[0]
	e := r.expr(n, s)
	switch {
	case inner.IsUpper():
		return dot(e, "create")
	case inner.Is(syntax.Dot), inner.IsLower() && isUnknown(inner.Text, s):
		return e
	}
	return dot(e, "apply")
}

// chain rewrites a call of a chain: the calls, and the receiver behind them.
func (r *rewriter) chain(n *located.Node, s *scope) ([]api.Node, api.Node) {
	chain := n.Kids[0]
	var parts []api.Node
	receiver := chain.Kids[0]
	first := root(receiver)
	last, ok := api.Node{}, false
	if isChain(receiver) {
		parts, last = r.chain(receiver, s)
		ok = true
	} else if receiver.Is(syntax.This) || receiver.IsLower() {
		last, ok = r.chained(receiver, s)
	}
	var method *located.Node
	if ok && first.Is(syntax.This) {
		method = r.knownIn(first, chain.Text, s.frame)
	}
	args := arguments(n, method, false)
	if !ok {
		panic(fault{chain, ErrChain})
	}
	filled := r.filled(args, method, s)
	parts = append(parts, joined(syntax.Call, "", filled, dot(last, chain.Text), word(n.Kids[1].Text)))
	return parts, clone(last)
}

// isChain reports whether an expression is a call of a chain.
func isChain(n *located.Node) bool { return n.Is(syntax.Call) && n.Kids[0].Is(syntax.Chain) }

// root returns what all calls of a chain are called on.
func root(n *located.Node) *located.Node {
	for isChain(n) {
		n = n.Kids[0].Kids[0]
	}
	return n
}

// chained returns the receiver of a chain, if it is this or a local variable.
func (r *rewriter) chained(n *located.Node, s *scope) (api.Node, bool) {
	if n.Is(syntax.This) {
		return this(), true
	}
	what, _ := s.find(n.Text)
	return name(n.Text), what == isLocal
}

// uncalled refuses a chain or a partial application that is not called.
func (r *rewriter) uncalled(n *located.Node, s *scope) api.Node { panic(fault{n, ErrChain}) }
