package flow

import (
	"slices"

	"hackamore/api"
)

// runner runs a body by all its ways. It first measures each node, from the innermost ones on: how it is left, whatever
// was ahead of it. Then it visits each node that is reached once, by the way that stands for all those that lead there,
// and tells the faults. (Since each way sets, takes or leaves what a variable has, nothing is lost where ways meet, and a
// loop that is run twice does no more than one that is run once.)
type runner struct {
	method      api.Method
	constructor bool
	fields      []string
	once        map[slot]bool // what is assigned once
	root        *node
	start       way
	telling     bool
	faults      []Fault
	watched     *node
	seen        way // the way by which the watched node is reached
}

func newRunner(e api.Entity, m api.Method, partial [][]int) *runner {
	r := &runner{method: m, constructor: m.Kind == api.New, once: map[slot]bool{}, start: way{open: true}}
	for _, f := range e.Fields {
		if !slices.Contains(r.fields, f.Name) {
			r.fields = append(r.fields, f.Name)
			r.once[slot{true, f.Name}] = f.Let
		}
	}
	does := map[slot]uint8{}
	for _, p := range m.Params {
		does[slot{false, p.Name}] = valued | assigned
		r.once[slot{false, p.Name}] = true
	}
	r.start.does = does
	p := planter{m.Kind == api.Fun, map[string]bool{}}
	for _, path := range partial {
		p.throws[key(path)] = true
	}
	r.root = p.plant(m.Body, nil, place{used: p.fun})
	return r
}

// runBody returns the ways by which the body is left.
func (r *runner) runBody() ways {
	r.measure(r.root)
	r.telling = true
	return r.visit(r.root, r.start)
}

func (r *runner) measure(n *node) {
	if n.op == api.OpLet || n.op == api.OpCase && n.text != "" {
		r.once[slot{false, n.text}] = true
	}
	for _, k := range n.kids {
		if k != nil {
			r.measure(k)
		}
	}
	n.ways = r.run(n, way{open: true})
}

func (r *runner) visit(n *node, in way) ways {
	if n == r.watched {
		r.seen = in
	}
	return r.run(n, in)
}

// run returns the ways by which a node is left that is reached by a way.
func (r *runner) run(n *node, in way) ways {
	runs := [api.OpLast + 1]func(r *runner, n *node, in way) ways{
		api.OpLocal: (*runner).local, api.OpConsume: (*runner).consume, api.OpThis: (*runner).this, api.OpGet: (*runner).get,
		api.OpSet: (*runner).set, api.OpVar: (*runner).declare, api.OpLet: (*runner).declare, api.OpAssign: (*runner).assign,
		api.OpSeq: (*runner).seq, api.OpIf: (*runner).choose, api.OpWhile: (*runner).loop, api.OpMatch: (*runner).match,
		api.OpCase: (*runner).matchCase, api.OpTry: (*runner).try, api.OpError: (*runner).fail, api.OpReturn: (*runner).leave,
		api.OpBreak: (*runner).jump, api.OpContinue: (*runner).jump, api.OpCall: (*runner).call, api.OpNew: (*runner).call,
	}
	if f := runs[n.op]; f != nil {
		return f(r, n, in)
	}
	return r.all(n, in)
}

// kid runs a kid that is reached by a way; one that is none does nothing.
func (r *runner) kid(n *node, i int, in way) ways {
	k := n.kids[i]
	switch {
	case k == nil:
		return ways{end: in}
	case !in.open:
		return ways{}
	case r.telling:
		r.visit(k, in)
	}
	return k.ways.after(in)
}

// all runs the kids one after the other.
func (r *runner) all(n *node, in way) ways {
	w := ways{end: in}
	for i := range n.kids {
		k := r.kid(n, i, w.end)
		w = ways{end: k.end, leaves: w.leaves.joined(k.leaves)}
	}
	return w
}

func (r *runner) fault(n *node, code api.Errno) {
	if r.telling {
		r.faults = append(r.faults, Fault{code, slices.Clone(n.path)})
	}
}

// lacks reports whether a field has no value.
func (r *runner) lacks(w way) bool {
	return slices.ContainsFunc(r.fields, func(name string) bool { return !w.has(slot{true, name}) })
}

// own returns the field of the receiver that a node names, if it is one.
func (r *runner) own(n *node) (slot, bool) {
	k := n.kids[0]
	return slot{true, n.text}, k.op == api.OpThis && slices.Contains(r.fields, n.text)
}

func (r *runner) local(n *node, in way) ways {
	if !in.has(slot{false, n.text}) {
		r.fault(n, ErrUnset)
	}
	return ways{end: in}
}

func (r *runner) consume(n *node, in way) ways {
	w := r.local(n, in)
	w.end = w.end.with(slot{false, n.text}, unvalued)
	return w
}

func (r *runner) this(n *node, in way) ways {
	if r.constructor && !n.origin && r.lacks(in) {
		r.fault(n, ErrField)
	}
	return ways{end: in}
}

func (r *runner) get(n *node, in way) ways {
	w := r.all(n, in)
	if f, ok := r.own(n); ok && r.constructor && !w.end.has(f) {
		r.fault(n, ErrUnset)
	}
	return w
}

func (r *runner) set(n *node, in way) ways {
	w := r.all(n, in)
	f, ok := r.own(n)
	if !ok || !w.end.open {
		return w
	}
	if r.constructor && n.used && !w.end.has(f) {
		r.fault(n, ErrUnset)
	}
	if r.once[f] && (!r.constructor || w.end.wasAssigned(f)) {
		r.fault(n, ErrSet)
	}
	if r.constructor {
		w.end = w.end.with(f, valued|assigned)
	}
	return w
}

func (r *runner) declare(n *node, in way) ways {
	w := r.all(n, in)
	does := uint8(unvalued | unassigned)
	if len(n.kids) > 0 {
		does = valued | assigned
	}
	w.end = w.end.with(slot{false, n.text}, does)
	return w
}

func (r *runner) assign(n *node, in way) ways {
	w := r.all(n, in)
	s := slot{false, n.text}
	if !w.end.open {
		return w
	}
	if n.used && !w.end.has(s) {
		r.fault(n, ErrUnset)
	}
	if r.once[s] && w.end.wasAssigned(s) {
		r.fault(n, ErrSet)
	}
	w.end = w.end.with(s, valued|assigned)
	return w
}

func (r *runner) seq(n *node, in way) ways {
	w := ways{end: in}
	for i, k := range n.kids {
		if !w.end.open {
			r.fault(k, ErrDead)
			break
		}
		next := r.kid(n, i, w.end)
		w = ways{end: next.end, leaves: w.leaves.joined(next.leaves)}
	}
	return w
}

func (r *runner) call(n *node, in way) ways {
	w := r.all(n, in)
	if n.throws && w.end.open {
		failed := r.fail(n, w.end)
		w.leaves = w.leaves.joined(failed.leaves)
	}
	return w
}

func (r *runner) fail(n *node, in way) ways {
	if !n.caught && !r.method.Partial {
		r.fault(n, ErrPartial)
	}
	return ways{leaves: leaves{failed: in}}
}

func (r *runner) leave(n *node, in way) ways {
	w := r.all(n, in)
	if r.constructor && w.end.open && r.lacks(w.end) {
		r.fault(n, ErrField)
	}
	w.leaves = w.leaves.joined(leaves{returned: w.end})
	w.end = way{}
	return w
}

func (r *runner) jump(n *node, in way) ways {
	switch {
	case !n.looped:
		r.fault(n, ErrLoop)
		return ways{}
	case n.op == api.OpBreak:
		return ways{leaves: leaves{broken: in}}
	}
	return ways{leaves: leaves{continued: in}}
}
