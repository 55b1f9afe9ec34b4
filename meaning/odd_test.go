package meaning_test

import (
	"slices"
	"testing"

	"hackamore/api"
	"hackamore/cells"
	"hackamore/check"
	"hackamore/meaning"
	"hackamore/samples"
	"hackamore/subtype"
	"hackamore/walk"
	"hackamore/world"
)

// anyExpr returns an expression in which most nodes have the right form.
func anyExpr(m *samples.Maker, depth int) api.Expr {
	if depth <= 1 || m.Below(6) == 0 {
		switch m.Below(12) {
		case 0:
			return m.OddExpr(3)
		case 1:
			return fails
		case 2:
			return []api.Expr{breaks, continues, nothing}[m.Below(3)]
		case 3, 4, 5:
			return local(m.One("a", "b", "c", "w", "m", "z"))
		case 6:
			return []api.Expr{this, nix, yes, no, str("x")}[m.Below(5)]
		case 7:
			return x(api.OpConsume, m.One("a", "b", "z"))
		}
		return lit(m.One("0", "1", "2", "7"))
	}
	kid := func() api.Expr { return anyExpr(m, depth-1) }
	maybe := func() api.Expr {
		if m.Below(3) == 0 {
			return nothing
		}
		return kid()
	}
	truth := func() api.Expr {
		return []api.Expr{yes, no, call("lt", kid(), lit("5")), kid()}[m.Below(4)]
	}
	switch m.Below(18) {
	case 0:
		return variable(m.One("a", "b", "z", "y"), kid())
	case 1:
		return assign(m.One("a", "b", "z"), kid())
	case 2, 3:
		return seq(kid(), kid(), kid())
	case 4:
		return when(truth(), kid(), maybe())
	case 5:
		return while(truth(), kid(), maybe())
	case 6:
		return match(kid(), cased(m.One("", "q"), m.One("U32 val", "None val", "Bool val", "main.Cell ref"), maybe(), kid()), cased("", m.One("Any tag", "(Any tag, U32 val)"), nothing, kid()))
	case 7, 8:
		return try(kid(), maybe(), maybe())
	case 9:
		return returns(kid())
	case 10:
		return call(m.One("add", "sub", "add_partial", "div_partial", "lt", "eq", "string", "put", "two"), kid(), kid())
	case 11:
		return call(m.One("get", "may", "odd", "name", "two", "put"), local("c"), kid())
	case 12:
		return create(m.One("main.Leaf ref", "main.Cell ref", "main.Worker tag"), m.One("create", "make", "fails"), kid())
	case 13:
		return x(api.OpSet, m.One("n", "o"), local(m.One("c", "w")), kid())
	case 14:
		return x(api.OpGet, m.One("n", "o"), local(m.One("c", "w")))
	case 15:
		return tuple(kid(), kid())
	case 16:
		return x(api.OpItem, m.One("0", "1", "2"), kid())
	}
	return x(api.OpIs, "", kid(), kid())
}

func variables() []meaning.Local {
	return append(locals(), meaning.Local{Name: "b", Value: truth(true)}, meaning.Local{Name: "k", Value: pair(u32(1), object(3))})
}

// named returns the names of the local variables that an expression may change.
func named(e api.Expr) []string {
	var l []string
	for n := range walk.Exprs(e) {
		switch n.Op {
		case api.OpVar, api.OpLet, api.OpAssign, api.OpConsume, api.OpCase:
			l = append(l, n.Text)
		}
	}
	return l
}

// TestByChance: any expressions, with any fuel: the fuel is kept to, more of it changes nothing, local variables that are
// not named stay, and the world stays right.
func TestByChance(t *testing.T) {
	m := samples.New(180)
	kinds := map[int]int{}
	start := begun(t).State()
	for round := range 3000 {
		e := anyExpr(m, 6)
		if round%10 == 0 {
			e = m.OddExpr(5)
		}
		w, _ := world.Load(start)
		fuel := 60 + m.Below(100)
		o := meaning.Eval(w, 1, object(2), e, variables(), fuel)
		kinds[o.Kind]++
		if o.Used > fuel || o.Used < 0 || world.Check(w.State()) != api.OK {
			t.Fatalf("used %d of %d, %v", o.Used, fuel, e)
		}
		if o.Kind != meaning.Value && o.Kind != meaning.Return && !alike(o.Value, api.Value{}) || o.Kind < meaning.Empty && o.Code != api.OK {
			t.Fatalf("a value, or a code, that the outcome %v has not", o)
		}
		again, _ := world.Load(start)
		o2 := meaning.Eval(again, 1, object(2), e, variables(), fuel+m.Below(1000))
		if o.Kind != meaning.Empty || o.Code != api.ErrSteps {
			if !alike(o, o2) || again.Dump() != w.Dump() {
				t.Fatalf("with more fuel %v, not %v", o2, o)
			}
		}
		changed := named(e)
		for _, l := range variables() {
			i := slices.IndexFunc(o.Locals, func(k meaning.Local) bool { return k.Name == l.Name })
			if !slices.Contains(changed, l.Name) && (i < 0 || !alike(o.Locals[i], l)) {
				t.Fatalf("%s is %v behind %v", l.Name, o.Locals, e)
			}
		}
		for i, l := range o.Locals {
			if slices.ContainsFunc(o.Locals[:i], func(k meaning.Local) bool { return k.Name == l.Name }) {
				t.Fatalf("%s stands there twice", l.Name)
			}
		}
	}
	for kind := meaning.Value; kind <= meaning.Wrong; kind++ {
		if kinds[kind] < 10 {
			t.Errorf("outcomes: %v", kinds)
		}
	}
}

// TestThen: of a try block the third Kid is evaluated just once, unless the outcome ahead is Empty or Wrong.
func TestThen(t *testing.T) {
	m := samples.New(181)
	start := begun(t).State()
	count := map[bool]int{}
	for range 1500 {
		first, second := anyExpr(m, 4), anyExpr(m, 4)
		fuel := 200
		w, _ := world.Load(start)
		ahead := meaning.Eval(w, 1, object(2), try(first, second, nothing), variables(), fuel)
		w, _ = world.Load(start)
		then := call("add", local("w"), lit("99"))
		o := meaning.Eval(w, 1, object(2), try(first, second, then), variables(), fuel+10)
		sent := 0
		for _, s := range w.State().Trace {
			if slices.Equal(s.Args, []string{"U32 99"}) {
				sent++
			}
		}
		want := 1
		if ahead.Kind == meaning.Empty || ahead.Kind == meaning.Wrong {
			want = 0
		}
		i := slices.IndexFunc(o.Locals, func(l meaning.Local) bool { return l.Name == "w" })
		if ahead.Code == api.ErrSteps || !alike(o.Locals[i].Value, actor(2)) {
			continue
		}
		count[want == 1]++
		if sent != want || want == 1 && (o.Kind != ahead.Kind || !alike(o.Value, ahead.Value)) {
			t.Fatalf("the third part is evaluated %d times, %v behind %v", sent, o, ahead)
		}
	}
	if count[true] < 100 || count[false] < 100 {
		t.Errorf("outcomes: %v", count)
	}
}

// TestCheckedBodies: a body that the checker takes is never wrong, and breaks no types and capabilities (P18.6).
func TestCheckedBodies(t *testing.T) {
	checked, e := parsed(cells.Text)
	p, e2 := parsed(cells.Filled())
	if e != api.OK || e2 != api.OK {
		t.Fatalf("the program: errors %d and %d", e, e2)
	}
	i, _ := subtype.Find(checked, cells.Entity)
	j := slices.IndexFunc(checked[i].Methods, func(m api.Method) bool { return m.Name == cells.Method })
	kinds, nodes, steps := map[int]int{}, 0, 0
	for seed := range uint64(600) {
		body := cells.New(seed, 0).Body(5)
		checked[i].Methods[j].Body = body
		if _, _, e := check.Method(checked, i, j); e != api.OK {
			continue
		}
		method(p, cells.Entity, cells.Method).Body = body
		w, o, other := cellsWorld(t, p)
		r := meaning.Call(w, 1, o, cells.Method, []api.Value{u32(3), other}, 3000)
		kinds[r.Kind]++
		nodes += r.Used
		if r.Kind != meaning.Value && r.Kind != meaning.Empty || r.Kind == meaning.Value && !w.Is(r.Value, ty("U32 val")) {
			t.Fatalf("seed %d: %v", seed, r)
		}
		for ok := true; ok; {
			if world.Check(w.State()) != api.OK || !isTyped(w) {
				t.Fatalf("seed %d: a state that is not right, or not typed\n%s", seed, w.Dump())
			}
			if a, b, race := w.Race(); race {
				t.Fatalf("seed %d: %v and %v race in\n%s", seed, a, b, w.Dump())
			}
			var end meaning.End
			if _, end, ok = meaning.Step(w, int(seed), 1000); end.Kind == meaning.Stuck {
				t.Fatalf("seed %d: %v", seed, end)
			}
			if ok {
				steps++
			}
		}
	}
	t.Logf("outcomes %v, fuel %d, %d steps", kinds, nodes, steps)
	if kinds[meaning.Value] < 250 {
		t.Errorf("outcomes: %v", kinds)
	}
}

// cellsWorld returns a world of the program of package cells, with two Cells whose fields all have values.
func cellsWorld(t *testing.T, p []api.Entity) (*world.World, api.Value, api.Value) {
	t.Helper()
	w, e := world.New(p, nil)
	if e != api.OK {
		t.Fatalf("New: error %d", e)
	}
	w.Take(1)
	deepest := func() api.Value { return filled(t, w, nil) }
	some := func() api.Value { return filled(t, w, deepest) }
	return w, filled(t, w, some), filled(t, w, some)
}

// filled makes a Cell; its fields have what is made for each of them, or itself where it may be.
func filled(t *testing.T, w *world.World, inner func() api.Value) api.Value {
	t.Helper()
	v, e := w.Make(1, cells.Entity)
	if e != api.OK {
		t.Fatalf("Make: error %d", e)
	}
	put := func(field string, x api.Value) {
		if _, e := w.Set(v, field, x); e != api.OK {
			t.Fatalf("Set of %s: error %d", field, e)
		}
	}
	put("v", u32(1))
	put("l", u32(2))
	for _, f := range []string{"c", "b", "g"} {
		put(f, v)
	}
	for _, f := range []string{"i", "t"} {
		if inner != nil {
			put(f, inner())
		}
	}
	return v
}

// isTyped reports whether all values of fields and elements are of their types.
func isTyped(w *world.World) bool {
	s := w.State()
	for _, c := range s.Cells {
		i := slices.IndexFunc(s.Program, func(e api.Entity) bool { return e.Name == c.Type })
		if c.Type == "" || c.Type == "String" || len(c.Type) > 6 && c.Type[:6] == "Array[" {
			continue
		}
		for j, v := range c.Fields {
			if v.Kind != api.ValNone && !w.Is(v, s.Program[i].Fields[j].Type) {
				return false
			}
		}
	}
	return true
}
