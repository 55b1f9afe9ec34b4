package check_test

import (
	"slices"
	"strings"
	"testing"

	"hackamore/api"
	"hackamore/cells"
	"hackamore/check"
	"hackamore/flow"
)

// with returns the program cells in which a method of main.Cell has another body.
func with(t testing.TB, method string, body api.Expr) ([]api.Entity, int, int) {
	t.Helper()
	p := program(t, cells.Text)
	i, j := at(t, p, "main.Cell", method)
	p[i].Methods[j].Body = body
	return p, i, j
}

// found checks the types that are found in a body, their texts with ; between them.
func found(t *testing.T, method string, body api.Expr, want string) {
	t.Helper()
	p, i, j := with(t, method, body)
	b, f, e := check.Method(p, i, j)
	var l []string
	for _, x := range b.Types {
		l = append(l, text(x))
	}
	if got := strings.Join(l, "; "); got != want || e != api.OK || b.Entity != i || b.Method != j || !same(f, check.Fault{}) {
		t.Errorf("%s: %s, error %d at %v, not %s", method, got, e, f.Path, want)
	}
}

// faulty checks the error of a body, and where it is.
func faulty(t *testing.T, method string, body api.Expr, want api.Errno, path ...int) {
	t.Helper()
	p, i, j := with(t, method, body)
	b, f, e := check.Method(p, i, j)
	if e != want || !same(f, check.Fault{Entity: i, Method: j, Path: path}) || !same(b, check.Body{}) {
		t.Errorf("%s: error %d at %v, not %d at %v", method, e, f, want, path)
	}
}

func get(name string, on api.Expr) api.Expr { return x(api.OpGet, name, on) }

func call(name string, l ...api.Expr) api.Expr { return x(api.OpCall, name, l...) }

func recovered(c string, body api.Expr) api.Expr { return tx(api.OpRecover, "", c, body) }

func let(name, typ string, value ...api.Expr) api.Expr { return tx(api.OpLet, name, typ, value...) }

func variable(name, typ string, value ...api.Expr) api.Expr {
	return tx(api.OpVar, name, typ, value...)
}

func consume(name string) api.Expr { return x(api.OpConsume, name) }

func assign(name string, value api.Expr) api.Expr { return x(api.OpAssign, name, value) }

// TestExamples: those of the chapter.
func TestExamples(t *testing.T) {
	found(t, "get", get("c", this), "main.Cell box; main.Cell box")
	found(t, "raw", get("c", this), "main.Cell ref; main.Cell ref")
	faulty(t, "get", x(api.OpSet, "c", this, get("c", this)), check.ErrView)
	faulty(t, "raw", recovered("this iso", tx(api.OpNew, "create", "main.Cell ref", get("c", this))), check.ErrSend, 0, 0, 0)
	p, i, j := with(t, "raw", recovered("this", tx(api.OpNew, "create", "main.Leaf ref")))
	p[i].Methods[j].Result = ty("main.Leaf iso")
	if b, _, e := check.Method(p, i, j); e != api.OK || text(b.Types[0]) != "main.Leaf iso^" {
		t.Errorf("%v, error %d", b, e)
	}
	p[i].Methods[j].Params = []api.Param{{Name: "x", Type: ty("(main.Cell iso | None val)")}}
	p[i].Methods[j].Body = x(api.OpMatch, "", local("x"), tx(api.OpCase, "y", "main.Cell iso", nothing, fails))
	if _, f, e := check.Method(p, i, j); e != check.ErrCases || len(f.Path) > 0 {
		t.Errorf("error %d at %v", e, f)
	}
}

// TestBegin: parameters as the receiver means them, and whether they always have a value.
func TestBegin(t *testing.T) {
	p := program(t, cells.Text)
	for _, bad := range [][2]int{{-1, 0}, {len(p), 0}, {0, -1}, {0, 64}} {
		if c, e := check.Begin(p, bad[0], bad[1]); e != api.ErrRange || !same(c, check.Context{}) {
			t.Errorf("%v: error %d", bad, e)
		}
		if b, f, e := check.Method(p, bad[0], bad[1]); e != api.ErrRange || !same(b, check.Body{}) || !same(f, check.Fault{}) {
			t.Errorf("%v: error %d at %v", bad, e, f)
		}
	}
	for _, l := range []struct{ entity, method, want string }{
		{"main.Cell", "put", "main.Cell ref"}, {"main.Cell", "get", "main.Cell box"}, {"main.Cell", "gone", "main.Cell tag"}, {"main.Cell", "create", "main.Cell ref"},
		{"main.Prim", "create", "main.Cell val"}, {"main.Prim", "name", "main.Cell box"}, {"main.Worker", "tell", "main.Cell ref"}, {"main.Worker", "create", "main.Cell ref"}, {"main.Teller", "tell", "main.Cell ref"},
	} {
		i, j := at(t, p, l.entity, l.method)
		m := &p[i].Methods[j]
		m.Params = []api.Param{{Name: "a", Type: ty("(this -> main.Cell ref)")}, {Name: "b", Type: ty("U8 val")}, {Name: "a", Type: ty("this")}}
		m.Body = seq(consume("a"), api.Expr{Text: "none", Kids: []api.Expr{consume("b")}})
		c, e := check.Begin(p, i, j)
		if e != api.OK || len(c.Locals) != 3 || len(c.Regions) > 0 || c.Entity != i || c.Method != j {
			t.Fatalf("%v: %v, error %d", l, c, e)
		}
		a, b := c.Locals[0], c.Locals[1]
		if a.Name != "a" || !a.Param || a.Always || text(a.Type) != l.want || a.Region != 0 || !b.Always || c.Locals[2].Always || c.Locals[2].Type.Cap == 0 {
			t.Errorf("%v: %v", l, c.Locals)
		}
	}
	i, j := at(t, p, "main.Cell", "get")
	for s, want := range map[string]api.Errno{"(this tag -> U8 ref)": api.ErrCap, "this": api.OK} {
		p[i].Methods[j].Params = []api.Param{{Name: "a", Type: ty(s)}}
		_, e := check.Begin(p, i, j)
		_, f, also := check.Method(p, i, j)
		if e != want || want != api.OK && (also != want || !same(f, check.Fault{Entity: i, Method: j})) {
			t.Errorf("%s: error %d, and %d at %v", s, e, also, f)
		}
	}
	p[i].Methods[j].Params[0].Type = api.Type{}
	if _, e := check.Begin(p, i, j); e != api.ErrForm {
		t.Errorf("no type: error %d", e)
	}
	p[i].Methods[j].Params[0].Type = ty("U8 val")
	p[i].Methods[j].Cap = 0
	if _, e := check.Begin(p, i, j); e != api.ErrCap {
		t.Errorf("no capability: error %d", e)
	}
}

// TestMethodOrder: the errors of a method in their order.
func TestMethodOrder(t *testing.T) {
	bad := seq(local("x"), local(""))
	faulty(t, "get", bad, api.ErrForm, 1)
	faulty(t, "get", seq(slices.Repeat([]api.Expr{local("")}, 4000)...), api.ErrSize)
	faulty(t, "get", seq(local("x"), local("y")), api.ErrScope, 0)
	faulty(t, "get", x(api.OpIf, "", one, local("x"), one), api.ErrScope, 1)
	faulty(t, "get", x(api.OpIf, "", one, seq(one, get("q", this)), nothing), api.ErrNone, 1, 1)
	faulty(t, "get", x(api.OpIf, "", one, one, nothing), api.ErrType)
	faulty(t, "get", seq(fails, one), check.ErrResult)
	faulty(t, "get", seq(fails, get("c", this)), flow.ErrPartial, 0)
	faulty(t, "may", seq(fails, one), flow.ErrDead, 1)
	faulty(t, "get", fails, flow.ErrPartial)
	faulty(t, "get", seq(local("s"), let("s", "U8 val")), api.ErrScope, 0)
	faulty(t, "get", seq(let("s", "U8 val"), local("s"), get("c", this)), flow.ErrUnset, 1)
	faulty(t, "may", one, flow.ErrPartial)
	faulty(t, "get", x(api.OpIf, "", yes, seq(one, get("c", this)), api.Expr{Text: "x"}), check.ErrResult)
	faulty(t, "put", x(api.OpIf, "", yes, x(api.OpReturn, "", one), api.Expr{Text: "x"}), check.ErrResult)
	faulty(t, "create", x(api.OpIf, "", yes, one, api.Expr{Text: "x"}), api.ErrForm)
	faulty(t, "create", nix, flow.ErrField)
	p, i, j := with(t, "get", fails)
	p[i].Methods[j].Partial, p[i].Methods[j].Result = true, ty("(this tag -> U8 val)")
	if _, f, e := check.Method(p, i, j); e != check.ErrResult || len(f.Path) > 0 {
		t.Errorf("a result with an error: %d at %v", e, f)
	}
	p[i].Methods[j].Result, p[i].Methods[j].Body = ty("(this -> main.Cell ref)"), get("c", this)
	p[i].Methods[j].Partial = false
	if _, f, e := check.Method(p, i, j); e != api.OK {
		t.Errorf("a result behind the receiver: error %d at %v", e, f)
	}
	p, i, j = with(t, "get", api.Expr{Text: "x", Kids: []api.Expr{local("")}})
	if b, f, e := check.Method(p, i, j); e != api.OK || len(b.Types) > 0 || b.Entity != i || b.Method != j {
		t.Errorf("no body: %v, error %d at %v", b, e, f)
	}
}

// TestMethodPartial: calls that may end with an error, by their methods.
func TestMethodPartial(t *testing.T) {
	faulty(t, "put", call("may", this), flow.ErrPartial)
	found(t, "put", x(api.OpTry, "", call("may", this), one, nothing), "U32 val; U32 val; main.Cell ref; U32 val; ")
	found(t, "may", call("may", this), "U32 val; main.Cell box")
	odd := tx(api.OpNew, "odd", "main.Leaf ref", one)
	faulty(t, "put", seq(odd, one), flow.ErrPartial, 0)
	found(t, "put", seq(x(api.OpTry, "", odd, nothing, nothing), one), "U32 val; (None val | main.Leaf box); main.Leaf box; U32 val; ; ; U32 val")
	found(t, "put", seq(tx(api.OpNew, "sent", "main.Leaf ref", one), one), "U32 val; main.Leaf iso^; U32 val; U32 val")
}

// TestMethodLocals: local variables are declared behind their values, and stay.
func TestMethodLocals(t *testing.T) {
	faulty(t, "put", let("s", "U32 val", local("s")), api.ErrScope, 0)
	found(t, "put", seq(seq(let("s", "U32 val", one)), local("s")), "U32 val; None val; None val; U32 val; U32 val")
	faulty(t, "put", seq(let("n", "Bool val", yes), variable("n", "U32 val", local("n")), local("n")), check.ErrResult, 1)
	found(t, "put", seq(variable("q", "Bool val", yes), variable("q", "U32 val", one), local("q")), "U32 val; None val; Bool val; None val; U32 val; U32 val")
	found(t, "put", seq(variable("s", "U32 val", one), assign("s", one)), "U32 val; None val; U32 val; U32 val; U32 val")
	found(t, "put", seq(variable("s", "U32 val"), assign("s", one), local("s")), "U32 val; None val; (None val | U32 val); U32 val; U32 val")
	found(t, "put", seq(variable("s", "U32 val", one), seq(consume("s"), assign("s", one)), one), "U32 val; None val; U32 val; (None val | U32 val); U32 val; (None val | U32 val); U32 val; U32 val")
	faulty(t, "put", seq(assign("n", one), one), check.ErrPlace, 0)
	faulty(t, "put", seq(let("s", "U32 val", one), assign("s", one), one), flow.ErrSet, 1)
}

// TestMethodCases: what cases bind, in guards and bodies.
func TestMethodCases(t *testing.T) {
	leaf := tx(api.OpNew, "sent", "main.Leaf ref", one)
	iso := call("cell", leaf)
	match := func(guard, body api.Expr) api.Expr {
		return seq(x(api.OpMatch, "", iso, tx(api.OpCase, "k", "main.Cell iso^", guard, body)), one)
	}
	head := "U32 val; %; main.Cell iso^; main.Leaf iso^; U32 val; "
	found(t, "put", match(nothing, consume("k")), strings.ReplaceAll(head, "%", "main.Cell iso^")+"main.Cell iso^; ; main.Cell iso^; U32 val")
	found(t, "put", match(x(api.OpIs, "", local("k"), local("k")), consume("k")), strings.ReplaceAll(head, "%", "(None val | main.Cell iso^)")+"main.Cell iso^; Bool val; main.Cell iso!; main.Cell iso!; main.Cell iso^; U32 val")
	found(t, "put", match(nothing, local("k")), strings.ReplaceAll(head, "%", "main.Cell iso!")+"main.Cell iso!; ; main.Cell iso!; U32 val")
	faulty(t, "put", match(call("take", tx(api.OpNew, "create", "main.Worker tag", one), consume("k")), one), check.ErrArgs, 0, 1, 0)
	faulty(t, "put", match(nothing, assign("k", iso)), check.ErrPlace, 0, 1, 1)
	unnamed := seq(x(api.OpMatch, "", one, tx(api.OpCase, "", "U32 val", nothing, local("k"))), one)
	faulty(t, "put", unnamed, api.ErrScope, 0, 1, 1)
	inGuard := seq(x(api.OpMatch, "", iso, tx(api.OpCase, "k", "main.Cell iso^", seq(let("k", "U32 val", one), yes), local("k"))), one)
	found(t, "put", inGuard, "U32 val; (None val | U32 val); main.Cell iso^; main.Leaf iso^; U32 val; U32 val; Bool val; None val; U32 val; Bool val; U32 val; U32 val")
	behind := seq(x(api.OpMatch, "", iso, tx(api.OpCase, "k", "main.Cell iso^", nothing, one)), local("k"))
	faulty(t, "get", behind, check.ErrResult)
	faulty(t, "put", seq(behind, one), flow.ErrUnset, 0, 1)
}

// TestMethodRegions: recover blocks see what is sendable, and their own.
func TestMethodRegions(t *testing.T) {
	own := seq(let("a", "main.Leaf ref", tx(api.OpNew, "create", "main.Leaf ref")), local("a"))
	found(t, "put", seq(recovered("this", own), one), "U32 val; main.Leaf iso^; main.Leaf ref; None val; main.Leaf ref; main.Leaf ref; U32 val")
	faulty(t, "put", seq(recovered("this", own), local("a"), one), api.ErrScope, 1)
	faulty(t, "put", seq(recovered("this", own), recovered("this", local("a")), one), api.ErrScope, 1, 0)
	faulty(t, "put", seq(recovered("this", seq(own, recovered("this", local("a")))), one), check.ErrSend, 0, 0, 1, 0)
	found(t, "put", seq(recovered("this", seq(let("a", "main.Leaf tag", tx(api.OpNew, "create", "main.Leaf ref")), recovered("this", local("a")))), one),
		"U32 val; main.Leaf tag; main.Leaf tag; None val; main.Leaf ref; main.Leaf tag; main.Leaf tag; U32 val")
	faulty(t, "put", seq(recovered("this", local("o")), one), check.ErrSend, 0, 0)
	found(t, "put", seq(recovered("this", local("n")), one), "U32 val; U32 val; U32 val; U32 val")
	faulty(t, "put", seq(recovered("this", this), one), check.ErrSend, 0, 0)
	faulty(t, "put", seq(variable("s", "U32 val"), recovered("this", assign("s", one)), one), check.ErrSend, 1, 0)
	faulty(t, "put", seq(recovered("this", seq(variable("s", "U32 val", one), recovered("this", assign("s", one)))), one), check.ErrSend, 0, 0, 1, 0)
	found(t, "put", seq(recovered("this", seq(variable("s", "U32 val", one), assign("s", one))), one), "U32 val; U32 val; U32 val; None val; U32 val; U32 val; U32 val; U32 val")
	faulty(t, "put", seq(recovered("this box", local("n")), recovered("this iso", get("c", local("o"))), one), check.ErrSend, 1, 0, 0)
	faulty(t, "put", seq(recovered("this iso", local("n")), one), check.ErrSend, 0)
	shadows := seq(let("s", "main.Leaf ref", tx(api.OpNew, "create", "main.Leaf ref")), recovered("this", seq(let("s", "U32 val", one), local("s"))), one)
	found(t, "put", shadows, "U32 val; None val; main.Leaf ref; U32 val; U32 val; None val; U32 val; U32 val; U32 val")
}

// TestCheck: the certificate of a program has the bodies of all methods that have one.
func TestCheck(t *testing.T) {
	p := program(t, cells.Text)
	c, f, e := check.Check(p)
	if e != api.OK || !same(f, check.Fault{}) {
		t.Fatalf("error %d at %v", e, f)
	}
	n := 0
	for i, x := range p {
		for j, m := range x.Methods {
			if m.Body.Op == 0 {
				continue
			}
			b, _, e := check.Method(p, i, j)
			if n >= len(c.Bodies) || e != api.OK || !same(b, c.Bodies[n]) {
				t.Fatalf("body %d is not that of %s.%s", n, x.Name, m.Name)
			}
			n++
		}
	}
	if n != len(c.Bodies) {
		t.Errorf("%d bodies, not %d", len(c.Bodies), n)
	}
	i, j := at(t, p, "main.Worker", "own")
	p[i].Methods[j].Body = seq(one, local("x"))
	if c, f, e := check.Check(p); e != api.ErrScope || !same(f, check.Fault{Entity: i, Method: j, Path: []int{1}}) || len(c.Bodies) > 0 {
		t.Errorf("error %d at %v", e, f)
	}
	k, l := at(t, p, "main.Main", "create")
	p[k].Methods[l].Cap = api.Ref
	if _, f, e := check.Check(p); e != check.ErrEntity || !same(f, check.Fault{Entity: k, Method: l}) {
		t.Errorf("the program ahead of its bodies: error %d at %v", e, f)
	}
}
