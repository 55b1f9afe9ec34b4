package flow

func (r *runner) choose(n *node, in way) ways {
	w := r.kid(n, 0, in)
	a, b := r.kid(n, 1, w.end), r.kid(n, 2, w.end)
	return ways{end: join(a.end, b.end), leaves: w.leaves.joined(a.leaves).joined(b.leaves)}
}

func (r *runner) loop(n *node, in way) ways {
	once := n.kids[0].ways
	round := n.kids[1].ways.after(once.end)
	back := join(once.continued, round.end, round.continued)
	head := join(in, in.then(back))
	cond := r.kid(n, 0, head)
	body := r.kid(n, 1, cond.end)
	other := r.kid(n, 2, cond.end)
	w := ways{end: join(other.end, cond.broken, body.broken)}
	if body.end.open || body.continued.open {
		w.end = join(w.end, cond.end)
	}
	w.failed = join(cond.failed, body.failed, other.failed)
	w.returned = join(cond.returned, body.returned, other.returned)
	w.broken, w.continued = other.broken, other.continued
	return w
}

func (r *runner) match(n *node, in way) ways {
	w := r.kid(n, 0, in)
	next, end := w.end, way{}
	for i := range n.kids[1:] {
		c := r.kid(n, i+1, next)
		w.leaves = w.leaves.joined(c.leaves)
		next, end = c.passed, join(end, c.end)
	}
	w.end = join(end, next)
	return w
}

// matchCase runs a case; its end is that of its body.
func (r *runner) matchCase(n *node, in way) ways {
	s := slot{false, n.text}
	bound := in
	if n.text != "" {
		bound = in.with(s, valued|assigned)
	}
	guard := r.kid(n, 0, bound)
	body := r.kid(n, 1, guard.end)
	w := ways{end: body.end, passed: in, leaves: guard.leaves.joined(body.leaves)}
	if n.kids[0] != nil {
		w.passed = join(in, guard.end)
	}
	if n.text != "" {
		w.end, w.passed = w.end.with(s, unvalued|assigned), w.passed.with(s, unvalued|assigned)
	}
	return w
}

func (r *runner) try(n *node, in way) ways {
	body := r.kid(n, 0, in)
	other := r.kid(n, 1, body.failed)
	body.failed = way{}
	w := ways{end: join(body.end, other.end), leaves: body.leaves.joined(other.leaves)}
	if n.kids[2] == nil {
		return w
	}
	last := r.kid(n, 2, join(w.end, w.failed, w.returned, w.broken, w.continued))
	behind := func(w way) way { return w.then(n.kids[2].ways.end) }
	return ways{end: behind(w.end), leaves: w.leaves.each(behind).joined(last.leaves)}
}
