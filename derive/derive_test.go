package derive_test

import (
	"reflect"
	"slices"
	"strings"
	"testing"

	"hackamore/api"
	"hackamore/cells"
	"hackamore/check"
	"hackamore/derive"
	"hackamore/flow"
	"hackamore/generic"
	"hackamore/names"
	"hackamore/types"
)

// ty returns the type with a text, the zero Type for the empty one.
func ty(s string) api.Type {
	if s == "" {
		return api.Type{}
	}
	t, e := types.Parse(s)
	if e != api.OK {
		panic("no type: " + s)
	}
	return t
}

// tys returns the types whose texts have ; between them.
func tys(s string) []api.Type {
	var l []api.Type
	for part := range strings.SplitSeq(s, ";") {
		l = append(l, ty(strings.TrimSpace(part)))
	}
	return l
}

func x(op int, text string, kids ...api.Expr) api.Expr {
	return api.Expr{Op: op, Text: text, Kids: kids}
}

func tx(op int, text, typ string, kids ...api.Expr) api.Expr {
	return api.Expr{Op: op, Text: text, Types: []api.Type{ty(typ)}, Kids: kids}
}

var (
	nothing = api.Expr{}
	this    = x(api.OpThis, "")
	fails   = x(api.OpError, "")
	one     = tx(api.OpLit, "1", "U32 val")
	yes     = tx(api.OpLit, "true", "Bool val")
)

func seq(l ...api.Expr) api.Expr { return x(api.OpSeq, "", l...) }

func local(name string) api.Expr { return x(api.OpLocal, name) }

// program returns the program of cells, and where one of its methods is.
func program(t testing.TB, entity, method string) ([]api.Entity, int, int) {
	t.Helper()
	p, e := names.Program(map[string]string{"main": cells.Text}, nil)
	if e == api.OK {
		p, e = generic.Reify(p, "main.Main")
	}
	if e != api.OK {
		t.Fatalf("error %d", e)
	}
	i := slices.IndexFunc(p, func(e api.Entity) bool { return e.Name == entity })
	j := slices.IndexFunc(p[i].Methods, func(m api.Method) bool { return m.Name == method })
	return p, i, j
}

func same(a, b any) bool { return reflect.DeepEqual(a, b) }

// alike compares faults, where a path that is empty is nil.
func alike(a, b check.Fault) bool {
	return a.Entity == b.Entity && a.Method == b.Method && slices.Equal(a.Path, b.Path)
}

// claimed checks what Body says of claimed types for a body of a method of main.Cell.
func claimed(t *testing.T, method string, body api.Expr, l string, want api.Errno, path ...int) {
	t.Helper()
	p, i, j := program(t, "main.Cell", method)
	p[i].Methods[j].Body = body
	f, e := derive.Body(p, check.Body{Entity: i, Method: j, Types: tys(l)})
	place := check.Fault{Entity: i, Method: j, Path: path}
	if want == api.OK {
		place = check.Fault{}
	}
	if e != want || !alike(f, place) {
		t.Errorf("%s: error %d at %v, not %d at %v", l, e, f, want, path)
	}
}

// TestExamples: those of the chapter.
func TestExamples(t *testing.T) {
	get := x(api.OpGet, "c", this)
	claimed(t, "get", get, "main.Cell box; main.Cell box", api.OK)
	claimed(t, "get", get, "main.Cell tag; main.Cell box", check.ErrResult)
	claimed(t, "get", get, "main.Cell ref; main.Cell box", derive.ErrClaim)
}

// TestBodyErrors: what is wrong ahead of the claims, in its order.
func TestBodyErrors(t *testing.T) {
	p, i, j := program(t, "main.Cell", "get")
	for _, bad := range [][2]int{{-1, 0}, {len(p), 0}, {i, -1}, {i, len(p[i].Methods)}} {
		if f, e := derive.Body(p, check.Body{Entity: bad[0], Method: bad[1]}); e != api.ErrRange || !same(f, check.Fault{}) {
			t.Errorf("%v: error %d at %v", bad, e, f)
		}
	}
	claimed(t, "get", seq(one, local("")), "U8 val", api.ErrForm, 1)
	claimed(t, "get", x(api.OpCase, "", one, local("")), "U8 val", api.ErrForm)
	claimed(t, "get", seq(slices.Repeat([]api.Expr{one}, 4000)...), "U8 val", api.ErrSize)
	get := x(api.OpGet, "c", this)
	claimed(t, "get", get, "main.Cell box", derive.ErrBodies)
	claimed(t, "get", get, "main.Cell box; main.Cell box; U8 val", derive.ErrBodies)
	p[i].Methods[j].Body = get
	bad := api.Type{Kind: api.TypeName, Name: "U8"}
	big := api.Type{Args: make([]api.Type, 400)}
	named := api.Type{Name: "U8"}
	wide := api.Type{Kind: api.TypeTuple, Args: make([]api.Type, 400)}
	for _, l := range []struct {
		types []api.Type
		e     api.Errno
		path  []int
	}{
		{[]api.Type{ty("U8 val"), bad}, api.ErrForm, []int{0}}, {[]api.Type{bad, bad}, api.ErrForm, nil}, {[]api.Type{named, wide}, api.ErrForm, nil},
		{[]api.Type{big, ty("U8 val")}, api.ErrForm, nil}, {[]api.Type{ty("U8 val"), wide}, api.ErrSize, []int{0}}, {[]api.Type{bad}, derive.ErrBodies, nil},
	} {
		f, e := derive.Body(p, check.Body{Entity: i, Method: j, Types: l.types})
		if e != l.e || !alike(f, check.Fault{Entity: i, Method: j, Path: l.path}) {
			t.Errorf("%v: error %d at %v", l.types, e, f)
		}
	}
	p[i].Methods[j].Params = []api.Param{{Name: "a", Type: ty("(this tag -> U8 ref)")}}
	p[i].Methods[j].Body = local("")
	if f, e := derive.Body(p, check.Body{Entity: i, Method: j}); e != api.ErrCap || !alike(f, check.Fault{Entity: i, Method: j}) {
		t.Errorf("Begin: error %d at %v", e, f)
	}
}

// TestNoBody: a method without a body has just the zero Type, or none.
func TestNoBody(t *testing.T) {
	p, i, j := program(t, "main.Has", "get")
	p[i].Methods[j].Body = api.Expr{Text: "x", Kids: []api.Expr{one, one}}
	for _, l := range []struct {
		types []api.Type
		e     api.Errno
	}{{nil, api.OK}, {make([]api.Type, 1), api.OK}, {make([]api.Type, 2), derive.ErrBodies}, {tys("U8 val"), derive.ErrBodies}, {[]api.Type{{Name: "x"}}, derive.ErrBodies}} {
		f, e := derive.Body(p, check.Body{Entity: i, Method: j, Types: l.types})
		want := check.Fault{}
		if l.e != api.OK {
			want = check.Fault{Entity: i, Method: j}
		}
		if e != l.e || !alike(f, want) {
			t.Errorf("%v: error %d at %v", l.types, e, f)
		}
	}
}

// TestClaims: what is claimed follows from what is claimed for the parts, and may be less.
func TestClaims(t *testing.T) {
	branch := x(api.OpIf, "", yes, one, nothing)
	body := seq(branch, one)
	claimed(t, "put", body, "U32 val; (None val | U32 val); Bool val; U32 val; ; U32 val", api.OK)
	claimed(t, "put", body, "U32 val; Any tag; Bool val; U32 val; ; U32 val", api.OK)
	claimed(t, "put", body, "U32 val; (U32 val | None val); Bool val; U32 val; ; U32 val", api.OK)
	claimed(t, "put", body, "U32 val; ; Bool val; U32 val; ; U32 val", derive.ErrClaim, 0)
	claimed(t, "put", body, "U32 val; U32 val; Bool val; U32 val; ; U32 val", derive.ErrClaim, 0)
	claimed(t, "put", body, "U32 val; Any tag; Bool val; U32 val; None val; U32 val", derive.ErrClaim, 0, 2)
	claimed(t, "put", body, "U32 val; Any tag; Any tag; U32 val; ; U32 val", api.ErrType, 0)
	claimed(t, "put", body, "U32 val; Any tag; ; U32 val; ; U32 val", derive.ErrClaim, 0, 0)
	claimed(t, "put", body, "U32 val; Any tag; Bool val; Any val; ; U32 val", api.OK)
	claimed(t, "put", body, "Any tag; Any tag; Bool val; U32 val; ; U32 val", check.ErrResult)
	claimed(t, "put", body, "U64 val; U64 val; Bool val; U32 val; ; U64 val", derive.ErrClaim, 0)
	claimed(t, "put", body, "U64 val; Any tag; Bool val; U32 val; ; U64 val", derive.ErrClaim, 1)
	claimed(t, "may", fails, "", api.OK)
	claimed(t, "may", fails, "U32 val", api.OK)
	claimed(t, "may", fails, "U64 val", check.ErrResult)
	claimed(t, "may", seq(fails, one), "U32 val; None val; U32 val", flow.ErrDead, 1)
	claimed(t, "put", seq(local("x"), local("y")), "U32 val; U32 val; U32 val", api.ErrScope, 0)
	claimed(t, "put", fails, "", flow.ErrPartial)
	claimed(t, "get", x(api.OpReturn, "", x(api.OpGet, "c", this)), "main.Cell tag; main.Cell box; main.Cell box", check.ErrResult)
	claimed(t, "get", x(api.OpReturn, "", x(api.OpGet, "c", this)), "main.Cell box; main.Cell tag; main.Cell box", check.ErrResult)
}

// TestPartial: calls may end with an error by the claimed types.
func TestPartial(t *testing.T) {
	p, i, j := program(t, "main.Cell", "get")
	asked := api.Method{Kind: api.Fun, Name: "get", Cap: api.Box, Result: ty("main.Cell box"), Partial: true}
	p = append(p, api.Entity{Kind: api.Interface, Name: "main.May", Cap: api.Box, Methods: []api.Method{asked}})
	p[i].Methods[j].Body = x(api.OpCall, "get", this)
	for claim, want := range map[string]api.Errno{"main.Cell box": api.OK, "main.May box": flow.ErrPartial} {
		f, e := derive.Body(p, check.Body{Entity: i, Method: j, Types: tys("main.Cell box; " + claim)})
		if e != want || len(f.Path) > 0 {
			t.Errorf("%s: error %d at %v", claim, e, f)
		}
	}
	odd := tx(api.OpNew, "odd", "main.Leaf ref", one)
	claimed(t, "put", seq(odd, one), "U32 val; Any tag; U32 val; U32 val", flow.ErrPartial, 0)
	claimed(t, "put", seq(x(api.OpTry, "", odd, nothing, nothing), one), "U32 val; Any tag; Any tag; U32 val; ; ; U32 val", api.OK)
	claimed(t, "put", seq(odd, api.Expr{Op: api.OpIf, Kids: []api.Expr{yes, one, {Text: "x"}}}, one), "U32 val; Any tag; U32 val; Any tag; Bool val; U32 val; ; U32 val", api.ErrForm)
}

// TestContexts: local variables, cases and recover blocks have what they have in layer 13.
func TestContexts(t *testing.T) {
	leaf := x(api.OpCall, "cell", tx(api.OpNew, "sent", "main.Leaf ref", one))
	match := seq(x(api.OpMatch, "", leaf, tx(api.OpCase, "k", "main.Cell iso^", x(api.OpIs, "", local("k"), local("k")), x(api.OpConsume, "k"))), one)
	claimed(t, "put", match, "U32 val; (None val | main.Cell iso^); main.Cell iso^; main.Leaf iso^; U32 val; main.Cell iso^; Bool val; main.Cell iso!; main.Cell iso!; main.Cell iso^; U32 val", api.OK)
	claimed(t, "put", match, "U32 val; (None val | main.Cell iso^); main.Cell iso^; main.Leaf iso^; U32 val; main.Cell iso^; Bool val; main.Cell iso; main.Cell iso!; main.Cell iso^; U32 val", derive.ErrClaim, 0, 1, 0, 0)
	claimed(t, "put", seq(tx(api.OpLet, "s", "U32 val", local("s")), one), "U32 val; None val; U32 val; U32 val", api.ErrScope, 0, 0)
	claimed(t, "put", seq(tx(api.OpLet, "s", "U32 val", one), local("s")), "U32 val; None val; U32 val; U32 val", api.OK)
	own := tx(api.OpRecover, "", "this", seq(tx(api.OpVar, "a", "main.Leaf ref", tx(api.OpNew, "create", "main.Leaf ref")), local("a")))
	claimed(t, "put", seq(own, one), "U32 val; main.Leaf iso^; main.Leaf ref; None val; main.Leaf ref; main.Leaf ref; U32 val", api.OK)
	claimed(t, "put", seq(own, local("a"), one), "U32 val; main.Leaf iso^; main.Leaf ref; None val; main.Leaf ref; main.Leaf ref; main.Leaf tag; U32 val", api.ErrScope, 1)
	claimed(t, "put", seq(tx(api.OpRecover, "", "this", local("o")), one), "U32 val; main.Cell iso^; main.Cell ref; U32 val", check.ErrSend, 0, 0)
	claimed(t, "put", seq(own, own, one), "U32 val; main.Leaf iso^; main.Leaf ref; None val; main.Leaf ref; main.Leaf ref; main.Leaf iso^; main.Leaf ref; None val; main.Leaf ref; main.Leaf ref; U32 val", api.OK)
	maybe := seq(tx(api.OpVar, "v", "U32 val"), x(api.OpAssign, "v", one), one)
	claimed(t, "put", maybe, "U32 val; None val; U32 val; U32 val; U32 val", derive.ErrClaim, 1)
	claimed(t, "put", maybe, "U32 val; None val; (None val | U32 val); U32 val; U32 val", api.OK)
	sure := seq(tx(api.OpVar, "v", "U32 val", one), x(api.OpAssign, "v", one), one)
	claimed(t, "put", sure, "U32 val; None val; U32 val; U32 val; U32 val; U32 val", api.OK)
	lost := seq(tx(api.OpVar, "v", "U32 val", one), x(api.OpAssign, "v", one), x(api.OpConsume, "v"))
	claimed(t, "put", lost, "U32 val; None val; U32 val; U32 val; U32 val; U32 val", derive.ErrClaim, 1)
	claimed(t, "put", seq(x(api.OpMatch, "", one, tx(api.OpCase, "k", "U32 val", nothing, x(api.OpAssign, "k", one))), one), "U32 val; U32 val; U32 val; U32 val; ; U32 val; U32 val; U32 val", check.ErrPlace, 0, 1, 1)
}

// TestVerify: the program, the bodies, each body.
func TestVerify(t *testing.T) {
	p, i, j := program(t, "main.Cell", "get")
	c, _, e := check.Check(p)
	if e != api.OK {
		t.Fatalf("error %d", e)
	}
	if f, e := derive.Verify(p, c); e != api.OK || !same(f, check.Fault{}) {
		t.Errorf("error %d at %v", e, f)
	}
	if f, e := derive.Verify(nil, check.Certificate{}); e != api.OK || !same(f, check.Fault{}) {
		t.Errorf("no program: error %d at %v", e, f)
	}
	bad := func(what string, l []check.Body) {
		t.Helper()
		if f, e := derive.Verify(p, check.Certificate{Bodies: l}); e != derive.ErrBodies || !same(f, check.Fault{}) {
			t.Errorf("%s: error %d at %v", what, e, f)
		}
	}
	bad("none", nil)
	bad("one less", c.Bodies[1:])
	bad("the last one twice", append(slices.Clone(c.Bodies), c.Bodies[len(c.Bodies)-1]))
	turned := slices.Clone(c.Bodies)
	turned[0], turned[1] = turned[1], turned[0]
	bad("another order", turned)
	k, m := slices.IndexFunc(p, func(e api.Entity) bool { return e.Name == "main.Has" }), 0
	bad("one without a body", append(slices.Clone(c.Bodies), check.Body{Entity: k, Method: m}))
	other := slices.Clone(c.Bodies)
	other[2].Method = 60
	bad("another method", other)
	n := slices.IndexFunc(c.Bodies, func(b check.Body) bool { return b.Entity == i && b.Method == j })
	w, e := derive.Weaker(c, n, 0, ty("main.Cell tag"))
	if e != api.OK {
		t.Fatalf("error %d", e)
	}
	if f, e := derive.Verify(p, w); e != check.ErrResult || !alike(f, check.Fault{Entity: i, Method: j}) {
		t.Errorf("weaker: error %d at %v", e, f)
	}
	w.Bodies[n+1].Types = nil
	if f, e := derive.Verify(p, w); e != check.ErrResult || !alike(f, check.Fault{Entity: i, Method: j}) {
		t.Errorf("the first one of two: error %d at %v", e, f)
	}
	p[3].Cap = 0
	if f, e := derive.Verify(p, check.Certificate{}); e != api.ErrForm || !alike(f, check.Fault{Entity: 3, Method: -1}) {
		t.Errorf("the program: error %d at %v", e, f)
	}
}
