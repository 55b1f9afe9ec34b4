package subtype

import (
	"hackamore/api"
	"hackamore/cap"
	"hackamore/types"
)

// assumption is a question whose methods are being asked, and those around it.
type assumption struct {
	pair
	above *assumption
}

// has reports whether a question is being asked already.
func (s *assumption) has(q pair) bool {
	for ; s != nil; s = s.above {
		if types.Equal(s.a, q.a) && types.Equal(s.b, q.b) {
			return true
		}
	}
	return false
}

// question is two types, and how it is asked.
type question struct {
	pair
	bare  bool
	above *assumption
}

// asker asks questions about a program, and counts them.
type asker struct {
	program []api.Entity
	steps   int
	known   map[string][]api.Method // methods by the texts of types
}

func newAsker(p []api.Entity) *asker {
	return &asker{program: p, known: map[string][]api.Method{}}
}

// tired reports whether there were too many questions.
func (k *asker) tired() bool { return k.steps > MaxSteps }

// methods returns the methods of a type.
func (k *asker) methods(t api.Type) []api.Method {
	text, _ := types.Text(t)
	l, ok := k.known[text]
	if !ok {
		l = methods(k.program, t)
		k.known[text] = l
	}
	return l
}

// ask returns the derivation of a question whose answer is yes.
func (k *asker) ask(q question) (Proof, bool) {
	k.steps++
	if k.tired() {
		return Proof{}, false
	}
	switch {
	case q.a.Kind == api.TypeUnion:
		return k.each(q.by(UnionAll, 0), partsLeft(q.pair), q)
	case q.b.Kind == api.TypeBoth:
		return k.each(q.by(BothAll, 0), partsRight(q.pair), q)
	case q.b.Kind == api.TypeUnion:
		if d, ok := k.one(UnionOne, partsRight(q.pair), q); ok || q.a.Kind != api.TypeBoth {
			return d, ok
		}
		return k.one(BothOne, partsLeft(q.pair), q)
	case q.a.Kind == api.TypeBoth:
		return k.one(BothOne, partsLeft(q.pair), q)
	case areTuples(q.pair):
		return k.each(q.by(Tuple, 0), inPlaces(q.pair), q)
	case areNames(q.pair):
		return k.names(q)
	}
	return q.by(Param, 0), areParams(q.pair) && (q.bare || paramFits(q.pair))
}

// by returns the derivation of a question by a rule, without those below it.
func (q question) by(rule, n int) Proof { return Proof{Rule: rule, N: n, A: q.a, B: q.b} }

// each asks all of several questions as another one is asked; their derivations are put into that of a rule.
func (k *asker) each(d Proof, l []pair, q question) (Proof, bool) {
	for _, x := range l {
		q.pair = x
		kid, ok := k.ask(q)
		if !ok {
			return Proof{}, false
		}
		d.Kids = append(d.Kids, kid)
	}
	return d, true
}

// one asks for one of several questions whose answer is yes.
func (k *asker) one(rule int, l []pair, q question) (Proof, bool) {
	for n := range l {
		if d, ok := k.each(q.by(rule, n), l[n:n+1], q); ok {
			return d, true
		}
	}
	return Proof{}, false
}

// names asks whether the type of a name is a subtype of that of another one.
func (k *asker) names(q question) (Proof, bool) {
	if !q.bare && !namesFit(q.pair) {
		return Proof{}, false
	}
	usual := question{above: q.above}
	for n, s := range supers(k.program, q.a) {
		if isNamed(s, q.b) {
			if d, ok := k.each(q.by(Super, n), bothWays(s, q.b), usual); ok {
				return d, true
			}
		}
	}
	switch {
	case !isInterface(k.program, q.b):
		return Proof{}, false
	case q.above.has(q.pair):
		return q.by(Assumed, 0), true
	}
	usual.above = &assumption{q.pair, q.above}
	d, ok := q.by(Structure, 0), true
	for _, n := range k.methods(q.b) {
		m, has := named(k.methods(q.a), n.Name)
		if !has {
			return Proof{}, false
		}
		var l []pair
		if l, ok = between(m, n, q.bare); ok {
			d, ok = k.each(d, l, usual)
		}
		if !ok {
			return Proof{}, false
		}
	}
	return d, true
}

// named returns the method with a name.
func named(l []api.Method, name string) (api.Method, bool) {
	for _, m := range l {
		if m.Name == name {
			return m, true
		}
	}
	return api.Method{}, false
}

func areTuples(q pair) bool {
	return q.a.Kind == api.TypeTuple && q.b.Kind == api.TypeTuple && len(q.a.Args) == len(q.b.Args)
}

func areNames(q pair) bool { return q.a.Kind == api.TypeName && q.b.Kind == api.TypeName }

// areParams reports whether two types are the same but for capabilities: type parameters, receivers or arrows.
func areParams(q pair) bool {
	if q.a.Kind != q.b.Kind {
		return false
	}
	switch q.a.Kind {
	case api.TypeParam:
		return q.a.Name == q.b.Name && q.a.Cap == q.b.Cap
	case api.TypeArrow:
		return types.Equal(q.a, q.b)
	}
	return q.a.Kind == api.TypeSelf
}

// paramFits reports whether the capabilities and marks of such types fit; without capabilities, the marks are equal.
func paramFits(q pair) bool {
	if q.a.Cap == api.CapNone && q.b.Cap == api.CapNone {
		return q.a.Mark == q.b.Mark
	}
	return namesFit(q)
}

func namesFit(q pair) bool { return cap.Fits(q.a.Cap, q.a.Mark, q.b.Cap, q.b.Mark) }

// isNamed reports whether a supertype has the name of another type, and as many arguments.
func isNamed(s, b api.Type) bool { return s.Name == b.Name && len(s.Args) == len(b.Args) }

// isInterface reports whether a type is that of an interface.
func isInterface(p []api.Entity, t api.Type) bool {
	e, ok := entity(p, t)
	return ok && e.Kind == api.Interface
}

// partsLeft returns the questions whether the Args of the first type are subtypes of the second one.
func partsLeft(q pair) []pair {
	var l []pair
	for _, x := range q.a.Args {
		l = append(l, pair{x, q.b})
	}
	return l
}

// partsRight returns the questions whether the first type is a subtype of the Args of the second one.
func partsRight(q pair) []pair {
	var l []pair
	for _, x := range q.b.Args {
		l = append(l, pair{q.a, x})
	}
	return l
}

// inPlaces returns the questions whether the Args of the first type are subtypes of those of the second one.
func inPlaces(q pair) []pair {
	var l []pair
	for i, x := range q.a.Args {
		l = append(l, pair{x, q.b.Args[i]})
	}
	return l
}

// bothWays returns the questions whether the Args of two types are the same.
func bothWays(s, b api.Type) []pair {
	var l []pair
	for i, x := range s.Args {
		l = append(l, pair{x, b.Args[i]}, pair{b.Args[i], x})
	}
	return l
}
