package derive_test

import (
	"slices"
	"testing"

	"hackamore/api"
	"hackamore/cap"
	"hackamore/cells"
	"hackamore/check"
	"hackamore/derive"
	"hackamore/flow"
	"hackamore/samples"
	"hackamore/subtype"
	"hackamore/types"
	"hackamore/walk"
)

// spot is a node of a body: its context, its path, and its number in the order of the walk.
type spot struct {
	c    check.Context
	x    api.Expr
	path []int
	kids []int
}

// spots returns the nodes of a body in the order of the walk, and the numbers of those in which types are found.
func spots(c check.Context, body api.Expr) (l []spot, order []int) {
	lost := map[string]bool{}
	var look func(x api.Expr)
	look = func(x api.Expr) {
		lost[x.Text] = lost[x.Text] || x.Op == api.OpConsume
		for _, k := range x.Kids {
			look(k)
		}
	}
	look(body)
	locals, regions := slices.Clone(c.Locals), 0
	var visit func(x api.Expr, path, around []int) int
	visit = func(x api.Expr, path, around []int) int {
		n := len(l)
		l = append(l, spot{check.Context{Entity: c.Entity, Method: c.Method, Locals: slices.Clone(locals), Regions: slices.Clone(around)}, x, slices.Clone(path), nil})
		at := 0
		if len(around) > 0 {
			at = around[len(around)-1]
		}
		if x.Op == api.OpRecover {
			regions++
			around = append(slices.Clone(around), regions)
		}
		mine := len(locals)
		for i, k := range x.Kids {
			if x.Op == api.OpCase && x.Text != "" {
				held := x.Types[0]
				if i == 0 {
					held, _ = types.Aliased(held)
					held, _ = types.Aliased(held)
					locals = append(locals, check.Local{Name: x.Text, Param: true, Always: !lost[x.Text], Region: at})
				}
				locals[mine].Type = held
			}
			kid := visit(k, append(slices.Clone(path), i), around)
			l[n].kids = append(l[n].kids, kid)
		}
		if x.Op == api.OpVar || x.Op == api.OpLet {
			locals = append(locals, check.Local{Name: x.Text, Always: len(x.Kids) > 0 && !lost[x.Text], Type: x.Types[0], Region: at})
		}
		order = append(order, n)
		return n
	}
	visit(body, nil, nil)
	return l, order
}

// judged tells the first error of claimed types by the words of the chapter.
func judged(p []api.Entity, b check.Body) ([]int, api.Errno) {
	c, _ := check.Begin(p, b.Entity, b.Method)
	m := p[b.Entity].Methods[b.Method]
	l, order := spots(c, m.Body)
	var partial [][]int
	for _, n := range order {
		s, want := l[n], b.Types[n]
		if s.x.Op == 0 {
			if want.Kind != 0 {
				return s.path, derive.ErrClaim
			}
			continue
		}
		var kids []api.Type
		for _, k := range s.kids {
			kids = append(kids, b.Types[k])
		}
		r, e := check.Rule(p, s.c, s.x, kids)
		if e != api.OK {
			return s.path, e
		}
		if r.Kind != 0 && (want.Kind == 0 || !types.Equal(r, want) && !subtype.Is(p, r, want)) {
			return s.path, derive.ErrClaim
		}
		if s.x.Op == api.OpCall {
			if f, _ := subtype.Lookup(p, kids[0], s.x.Text); f.Partial {
				partial = append(partial, s.path)
			}
		}
	}
	if t := b.Types[0]; t.Kind != 0 && !subtype.Is(p, t, m.Result) {
		return nil, check.ErrResult
	}
	r, e := flow.Check(p[b.Entity], b.Method, partial)
	if e == api.OK && len(r.Faults) > 0 {
		return r.Faults[0].Path, r.Faults[0].Code
	}
	return nil, e
}

// weaken puts another type into some places.
func weaken(m *samples.Maker, l []api.Type) {
	for range 1 + m.Below(3) {
		n := m.Below(len(l))
		switch m.Below(5) {
		case 0:
			l[n] = api.Type{}
		case 1:
			l[n] = ty("Any tag")
		case 2:
			if l[n].Kind != 0 {
				l[n] = api.Type{Kind: api.TypeUnion, Args: []api.Type{l[n], ty("main.Named box")}}
			}
		case 3:
			l[n].Mark = 0
		default:
			l[n] = m.CoreType(2, map[string]int{"main.Cell": 0, "U32": 0, "None": 0, "main.Named": 0})
		}
	}
}

// TestClaimsByChance (P14.2, P14.5): the certificate that Check returns is taken; others by the words of the chapter.
func TestClaimsByChance(t *testing.T) {
	p, i, j := program(t, cells.Entity, cells.Method)
	codes := map[api.Errno]int{}
	for seed := range uint64(700) {
		m := samples.New(seed)
		p[i].Methods[j].Body = cells.New(seed, 0).Body(3 + m.Below(4))
		c, _, e := check.Check(p)
		if e != api.OK {
			continue
		}
		if f, e := derive.Verify(p, c); e != api.OK {
			t.Fatalf("%d: error %d at %v", seed, e, f)
		}
		n := slices.IndexFunc(c.Bodies, func(b check.Body) bool { return b.Entity == i && b.Method == j })
		for range 4 {
			b := check.Body{Entity: i, Method: j, Types: slices.Clone(c.Bodies[n].Types)}
			weaken(m, b.Types)
			if slices.ContainsFunc(b.Types, func(x api.Type) bool { return !walk.IsZero(x) && types.Check(x) != api.OK }) {
				continue
			}
			path, want := judged(p, b)
			f, e := derive.Body(p, b)
			if e != want || !slices.Equal(f.Path, path) || want != api.OK && (f.Entity != i || f.Method != j) {
				t.Fatalf("%d: error %d at %v, not %d at %v", seed, e, f, want, path)
			}
			codes[e]++
			w := check.Certificate{Bodies: slices.Clone(c.Bodies)}
			w.Bodies[n] = b
			if g, also := derive.Verify(p, w); also != e || !alike(f, g) {
				t.Fatalf("%d: Verify has the error %d at %v", seed, also, g)
			}
			if e == api.OK {
				safe(t, p, b)
			}
		}
	}
	for _, e := range []api.Errno{api.OK, derive.ErrClaim, api.ErrNone, check.ErrArgs, check.ErrResult} {
		if codes[e] < 5 {
			t.Errorf("errors %v", codes)
		}
	}
}

// safe checks (P14.3) that all is written through a claimed capability that writes, and takes what is stored, and that what
// behaviours get is sendable.
func safe(t *testing.T, p []api.Entity, b check.Body) {
	t.Helper()
	c, _ := check.Begin(p, b.Entity, b.Method)
	l, _ := spots(c, p[b.Entity].Methods[b.Method].Body)
	for _, s := range l {
		switch {
		case s.x.Op == api.OpSet:
			on := b.Types[s.kids[0]]
			if c := walk.Counts(on.Cap, on.Mark); !cap.Writes(c) || !types.Storable(c, b.Types[s.kids[1]]) {
				t.Fatalf("written through %d at %v", c, s.path)
			}
		case s.x.Op == api.OpCall && (s.x.Text == "take" || s.x.Text == "tell"):
			if a := b.Types[s.kids[1]]; a.Kind != 0 && !types.Sendable(a) {
				t.Fatalf("sent: %v at %v", a, s.path)
			}
		}
	}
}

// TestSameTexts (P14.4): Parse of Text is the certificate; Weaker with the claimed type changes nothing.
func TestSameTexts(t *testing.T) {
	p, i, j := program(t, cells.Entity, cells.Method)
	for seed := range uint64(60) {
		p[i].Methods[j].Body = cells.New(seed, 0).Body(5)
		c, _, e := check.Check(p)
		if e != api.OK {
			continue
		}
		s, e := derive.Text(c)
		got, wrong := derive.Parse(s)
		if e != api.OK || wrong != api.OK || !slices.EqualFunc(c.Bodies, got.Bodies, equal) {
			t.Fatalf("%d: errors %d, %d", seed, e, wrong)
		}
		for k, b := range c.Bodies {
			for n, x := range b.Types {
				if w, e := derive.Weaker(c, k, n, x); n < 20 && (e != api.OK || !slices.EqualFunc(c.Bodies, w.Bodies, equal)) {
					t.Fatalf("%d: %d, %d is the error %d", seed, k, n, e)
				}
			}
		}
	}
}

// TestOddBodies: any bodies of any programs have an error or none, the same one again.
func TestOddBodies(t *testing.T) {
	for seed := range uint64(6000) {
		m := samples.New(seed)
		p := m.OddProgram()
		b := check.Body{Entity: m.Below(5) - 1, Method: m.Below(4) - 1}
		for range m.Below(7) {
			b.Types = append(b.Types, m.AnyType(2))
		}
		f, e := derive.Body(p, b)
		g, again := derive.Body(p, b)
		has := b.Entity >= 0 && b.Entity < len(p) && b.Method >= 0 && b.Method < len(p[b.Entity].Methods)
		if e != again || !alike(f, g) || (e == api.OK || !has) && !alike(f, check.Fault{}) || !has && e != api.ErrRange {
			t.Fatalf("%d: error %d at %v, and %d at %v", seed, e, f, again, g)
		}
		v, e := derive.Verify(p, check.Certificate{Bodies: []check.Body{b}})
		if w, want := check.Program(p); want != api.OK && (e != want || !alike(v, w)) {
			t.Fatalf("%d: error %d at %v, not %d", seed, e, v, want)
		}
	}
}
