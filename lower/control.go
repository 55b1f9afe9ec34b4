package lower

import (
	"hackamore/api"
	"hackamore/num"
	"hackamore/ssa"
)

func (b *builder) choice(x *api.Expr, want bool) int {
	v := b.value(&x.Kids[0])
	r, yes, no, behind := b.result(want), newLabel(), newLabel(), newLabel()
	if x.Kids[2].Op == 0 && !want {
		no = behind
	}
	b.branch(v, yes, no)
	b.start(yes)
	b.give(r, b.eval(&x.Kids[1], want))
	b.jump(behind)
	if no != behind {
		b.start(no)
		b.give(r, b.perhaps(&x.Kids[2], want))
		b.jump(behind)
	}
	b.start(behind)
	return b.taken(r)
}

// cycle is a loop that is being made: where OpBreak and OpContinue go, and the variable of its value, nil if nobody asks for it.
type cycle struct {
	head, behind *label
	value        *variable
	inBody       bool
}

// loop makes a loop. Whether its body was ever run matters only if there is something to do otherwise.
func (b *builder) loop(x *api.Expr, want bool) int {
	c := &cycle{head: newLabel(), behind: newLabel(), value: b.result(want)}
	body, end := newLabel(), newLabel()
	var began *variable
	b.give(c.value, absent)
	if x.Kids[2].Op != 0 {
		began = b.newVariable()
		b.store(began, b.truth(false))
	}
	b.jump(c.head)
	b.start(c.head)
	b.scopes = append(b.scopes, scope{cycle: c})
	b.branch(b.value(&x.Kids[0]), body, end)
	b.start(body)
	if began != nil && b.at >= 0 {
		b.store(began, b.truth(true))
	}
	c.inBody = true
	b.give(c.value, b.eval(&x.Kids[1], want))
	b.jump(c.head)
	b.scopes = b.scopes[:len(b.scopes)-1]
	b.start(end)
	if began != nil && b.at >= 0 {
		never := newLabel()
		b.branch(b.load(began), c.behind, never)
		b.start(never)
		b.give(c.value, b.eval(&x.Kids[2], want))
	}
	b.jump(c.behind)
	b.start(c.behind)
	return b.taken(c.value)
}

func (b *builder) match(x *api.Expr, want bool) int {
	v := b.eval(&x.Kids[0], len(x.Kids) > 1)
	if len(x.Kids) == 1 || b.at < 0 {
		return absent
	}
	v = b.given(v)
	r, behind := b.result(want), newLabel()
	for i := range x.Kids[1:] {
		c := &x.Kids[i+1]
		body, next := newLabel(), newLabel()
		b.branch(b.emit(ssa.Ins{Op: ssa.Fits, Args: []int{v}, Type: c.Types[0]}), body, next)
		b.start(body)
		if c.Text != "" {
			b.store(b.local(c.Text), v)
		}
		if c.Kids[0].Op != 0 {
			holds := newLabel()
			b.branch(b.value(&c.Kids[0]), holds, next)
			b.start(holds)
		}
		b.give(r, b.eval(&c.Kids[1], want))
		b.jump(behind)
		b.start(next)
	}
	b.give(r, absent)
	b.jump(behind)
	b.start(behind)
	return b.taken(r)
}

// scope is something around a place that is looked at by what leaves it: a loop, the first Kid of an OpTry, or its first two,
// behind which its third one is run.
type scope struct {
	cycle   *cycle
	handler *label
	last    *last
}

// Ways out of a place.
const (
	onward = iota // to what follows
	failed
	returned
	broken
	continued
)

// way is where something goes: of what leaves a loop, which one.
type way struct {
	kind int
	of   *cycle
}

// last is the third Kid of an OpTry. Which way led to it stands in a variable, by its number among the ways.
type last struct {
	begin   *label
	fails   *label // where an error leads to it
	ways    []way
	number  *variable
	value   *variable // what is to be returned behind it
	through func(w way, v int)
}

// leave goes where a way leads, with a value to be returned.
func (b *builder) leave(w way, v int) {
	if b.at < 0 {
		return
	}
	for i := len(b.scopes) - 1; i >= 0; i-- {
		switch s := b.scopes[i]; {
		case s.handler != nil && w.kind == failed:
			b.jump(s.handler)
			return
		case s.last != nil:
			s.last.through(w, v)
			return
		case s.cycle != nil && s.cycle == w.of:
			b.turn(w)
			return
		}
	}
	if w.kind == failed {
		b.jump(b.failing)
		return
	}
	b.giveBack(v)
}

// turn goes on behind a loop, or with its next round.
func (b *builder) turn(w way) {
	if w.kind == broken || w.of.inBody {
		b.give(w.of.value, absent)
	}
	if w.kind == broken {
		b.jump(w.of.behind)
	} else {
		b.jump(w.of.head)
	}
}

func (b *builder) raise(x *api.Expr, want bool) int {
	b.leave(way{kind: failed}, absent)
	return absent
}

func (b *builder) giveUp(x *api.Expr, want bool) int {
	v := absent
	if len(x.Kids) > 0 {
		v = b.eval(&x.Kids[0], !b.isNew && !b.isNone)
	}
	b.leave(way{kind: returned}, v)
	return absent
}

// leaveLoop leaves the innermost loop, or its round.
func (b *builder) leaveLoop(x *api.Expr, want bool) int {
	w := way{kind: broken}
	if x.Op == api.OpContinue {
		w.kind = continued
	}
	for _, s := range b.scopes {
		if s.cycle != nil {
			w.of = s.cycle
		}
	}
	b.leave(w, absent)
	return absent
}

// catches reports whether an error goes somewhere from here.
func (b *builder) catches() bool {
	if b.f.Partial {
		return true
	}
	for _, s := range b.scopes {
		if s.handler != nil || s.last != nil {
			return true
		}
	}
	return false
}

// errors returns where an error goes from here.
func (b *builder) errors() *label {
	for i := len(b.scopes) - 1; i >= 0; i-- {
		switch s := b.scopes[i]; {
		case s.handler != nil:
			return s.handler
		case s.last != nil:
			return s.last.fails
		}
	}
	return b.failing
}

// attempt makes an OpTry.
func (b *builder) attempt(x *api.Expr, want bool) int {
	r, handler, behind := b.result(want), newLabel(), newLabel()
	around := len(b.scopes)
	done := func() { b.jump(behind) }
	var l *last
	if !isIdle(&x.Kids[2]) {
		l = b.newLast()
		b.scopes = append(b.scopes, scope{last: l})
		done = func() { l.through(way{}, absent) }
	}
	b.scopes = append(b.scopes, scope{handler: handler})
	b.give(r, b.eval(&x.Kids[0], want))
	done()
	b.scopes = b.scopes[:len(b.scopes)-1]
	b.start(handler)
	b.give(r, b.perhaps(&x.Kids[1], want))
	done()
	if l != nil {
		b.start(l.fails)
		l.through(way{kind: failed}, absent)
		b.scopes = b.scopes[:around]
		b.start(l.begin)
		b.eval(&x.Kids[2], false)
		b.part(l, behind)
	}
	b.start(behind)
	return b.taken(r)
}

// isIdle reports whether nothing is done by the third Kid of an OpTry.
func isIdle(x *api.Expr) bool {
	return x.Op == 0 || x.Op == api.OpUnit || x.Op == api.OpLit || x.Op == api.OpThis || x.Op == api.OpSeq && len(x.Kids) == 0
}

func (b *builder) newLast() *last {
	l := &last{begin: newLabel(), fails: newLabel(), number: b.newVariable(), value: b.newVariable()}
	l.through = func(w way, v int) {
		if b.at < 0 {
			return
		}
		n := 0
		for n < len(l.ways) && l.ways[n] != w {
			n++
		}
		if n == len(l.ways) {
			l.ways = append(l.ways, w)
		}
		if w.kind == returned && !b.isNew && !b.isNone {
			b.give(l.value, v)
		}
		b.store(l.number, b.constant(numbered(n), "U16"))
		b.jump(l.begin)
	}
	return l
}

// numbered returns the number of a way as a value.
func numbered(n int) api.Value {
	v, _ := num.Of("U16", uint64(n))
	return v
}

// part goes, behind the third Kid of an OpTry, where the way that led to it goes.
func (b *builder) part(l *last, behind *label) {
	for n, w := range l.ways {
		next := newLabel()
		if n+1 < len(l.ways) && b.at >= 0 {
			here := newLabel()
			is := b.emit(ssa.Ins{Op: ssa.Is, Args: []int{b.load(l.number), b.constant(numbered(n), "U16")}, Type: named("Bool", api.Val)})
			b.branch(is, here, next)
			b.start(here)
		}
		switch {
		case w.kind == onward:
			b.jump(behind)
		case w.kind == returned && !b.isNew && !b.isNone && b.at >= 0:
			b.leave(w, b.load(l.value))
		default:
			b.leave(w, absent)
		}
		b.start(next)
	}
}
