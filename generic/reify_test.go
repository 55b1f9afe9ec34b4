package generic_test

import (
	"reflect"
	"slices"
	"strings"
	"testing"

	"hackamore/api"
	. "hackamore/generic"
	"hackamore/names"
	"hackamore/samples"
	"hackamore/subtype"
	"hackamore/types"
	"hackamore/walk"
)

func showEdges(l []Edge) string {
	var s []string
	for _, e := range l {
		arrow := " > "
		if e.Grows {
			arrow = " >> "
		}
		s = append(s, strings.ReplaceAll(e.From+arrow+e.To, "main.", ""))
	}
	return strings.Join(s, ", ")
}

// TestEdges: edges, and whether there are circles that grow.
func TestEdges(t *testing.T) {
	for _, x := range [][3]string{
		{"class L[A: Any #any]\n  var x: L[C[A]]\n  new create() => this\nclass C[A: Any #any]\n", "C.A > C.A, L.A > C.A, L.A > L.A, L.A >> L.A", "L.A"},
		{"class L[A: Any #any]\n", "L.A > L.A", ""},
		{"class L[A: Any #any] is T[A, (A | U8)]\ntrait T[X: Any #any, Y: Any #any]\n", "L.A > L.A, L.A > T.X, L.A >> T.Y", ""},
		{"class L[A: T[A] box]\n  fun f[B: T[(B, A)] box](x: T[A!], y: T[B box]): T[T[A]] => x\ntrait T[X: Any #any]\n", "L.A > L.A, L.A > T.X, L.A >> T.X, L.f.B > T.X, L.f.B >> T.X", ""},
		{"class L[A: Any #any]\n  fun f[B: Any #any](x: B): U8 => f[(A, B)](x)\n", "L.A > L.A, L.A >> L.f.B, L.f.B >> L.f.B", "L.f.B"},
		{"class L[A: Any #any]\n  fun f[B: Any #any](x: B): U8 => f[B](x)\n", "L.A > L.A, L.f.B > L.f.B", ""},
		{"class L[A: Any #any]\n  fun f[B: Any #any](x: M): U8 => x.f[A, B](x)\nclass M\n  fun f[X: Any #any, Y: Any #any](m: M): U8 => m.f[U8, (X, Y)](m)\nclass N\n  fun f(m: M): U8 => m.f[N, M](m)\n", "L.A > L.A, L.A > M.f.X, L.f.B > M.f.Y, M.f.X >> M.f.Y, M.f.Y >> M.f.Y", "M.f.Y"},
		{"class L[A: Any #any]\n  new create() => this\n  new of[B: Any #any](x: B) => L[B].of[A](x)\nclass M\n  new of[C: Any #any](x: C) => this\n", "L.A > L.A, L.A > L.of.B, L.of.B > L.A", ""},
		{"class P[A: Any #any, B: Any #any]\n  var x: P[B, A]\n  var y: P[(A, A), U8]\n  new create() => this\n", "P.A > P.A, P.A >> P.A, P.A > P.B, P.B > P.A, P.B > P.B", "P.A"},
		{"class A[X: Any #any]\n  var b: B[X]\n  new create() => this\nclass B[Y: Any #any]\n  var c: C[(Y, Y)]\n  new create() => this\nclass C[Z: Any #any]\n  var a: A[Z]\n  new create() => this\n", "A.X > A.X, A.X > B.Y, B.Y > B.Y, B.Y >> C.Z, C.Z > A.X, C.Z > C.Z", "B.Y"},
	} {
		p := program(t, x[0])
		l, e := Edges(p)
		l = slices.DeleteFunc(l, func(e Edge) bool { return !strings.HasPrefix(e.From, "main.") })
		if e != api.OK || showEdges(l) != x[1] {
			t.Errorf("Edges of %s: %s, error %d, want %s", x[0], showEdges(l), e, x[1])
		}
		ends, at, e := Ends(p)
		if got := strings.ReplaceAll(strings.Join(at, " "), "main.", ""); e != api.OK || got != x[2] || ends != (x[2] == "") {
			t.Errorf("Ends of %s: %v, %s, error %d, want %s", x[0], ends, got, e, x[2])
		}
	}
	large := []api.Entity{{Methods: []api.Method{{Params: make([]api.Param, 65)}}}}
	if l, e := Edges(large); e != api.ErrSize || l != nil {
		t.Errorf("Edges of a large program: error %d", e)
	}
	if ends, l, e := Ends(large); e != api.ErrSize || l != nil || ends {
		t.Errorf("Ends of a large program: error %d", e)
	}
}

// TestOddEdges: types that are not well-formed, names of no parameters, and entities that do not count.
func TestOddEdges(t *testing.T) {
	x := api.Type{Kind: api.TypeParam, Name: "X", Args: []api.Type{{Kind: api.TypeParam, Name: "X"}, {Kind: api.TypeParam, Name: "Z"}}}
	one := func(a api.Type) api.Type { return types.Named("C", 99, []api.Type{a}) }
	p := []api.Entity{
		{Name: "C", Bounds: []api.Bound{{Name: "X"}}, Fields: []api.Field{{Type: api.Type{Kind: 77, Args: []api.Type{one(x), types.Named("C", 0, nil), types.Named("Q", 0, []api.Type{x})}}}},
			Methods: []api.Method{{Name: "f", Bounds: []api.Bound{{Name: "X"}}, Result: one(api.Type{Kind: api.TypeParam, Name: "X"})}}},
		{Name: "C", Bounds: []api.Bound{{Name: "X"}}, Fields: []api.Field{{Type: one(one(x))}}},
		{Name: "D", Methods: []api.Method{{Name: "g", Body: api.Expr{Op: api.OpNew, Text: "f", Types: []api.Type{{Kind: api.TypeParam, Name: "C"}, x}}}}},
	}
	l, e := Edges(p)
	if got := showEdges(l); e != api.OK || got != "C.X > C.X, C.X >> C.X, C.f.X > C.X" {
		t.Errorf("Edges: %s, error %d", got, e)
	}
}

const reified = `class Cell[A: Any #any]
  var a: A
  new create(a': A) => a = consume a'
  fun box get(): this->A => a
class Unused
  new create() => this
class Old
  new create() => this
  new of[B: Stringable box](x: B) => this
  fun box id[B: Stringable box](x: B): B => x
  fun box both[B: Stringable box, C: Stringable box](x: B): None => id[C](x)
trait T[X: Any #any]
  fun box made(): Cell[X] => Cell[X](x())
  fun box x(): X^
actor Main is T[U16]
  var c: Cell[U32]
  new create(env: Env) =>
    c = Cell[U32](1)
    let o: Old = Old.create()
    o.both[U8, (U16 | U16)](1)
    o.id[String](1)
    o.id[Old](o)
    Old.of[(Bool | Bool)](true)
  fun box x(): U16^ => U16(1)
`

// TestReify: the program that is reached.
func TestReify(t *testing.T) {
	p := program(t, reified)
	r, e := Reify(p, "main.Main")
	if e != api.OK {
		t.Fatalf("Reify: error %d", e)
	}
	want := []string{
		"main.Cell[U16 val]\n  a: U16 val\n  create(U16 val,): main.Cell[U16 val] ref^ => 5a 3 9a'\n  get(): (this -> U16 val) => 4a 3",
		"main.Cell[U32 val]\n  a: U32 val\n  create(U32 val,): main.Cell[U32 val] ref^ => 5a 3 9a'\n  get(): (this -> U32 val) => 4a 3",
		"main.Old\n  create(): main.Old ref^ => 3\n  of[Bool val](Bool val,): main.Old ref^ => 3\n  id[String val](String val,): String val => 2x\n  id[U16 val](U16 val,): U16 val => 2x\n  both[U8 val, U16 val](U8 val,): None val => 20id[U16 val] 3 2x",
		"main.T[U16 val]\n  made(): main.Cell[U16 val] ref => 21create<main.Cell[U16 val] ref> 20x 3\n  x(): U16 val",
		"main.Main is main.T[U16 val] ref\n  c: main.Cell[U32 val] ref\n  create(Env val,): main.Main tag^ => 10 5c 3 21create<main.Cell[U32 val] ref> 1 7o<main.Old ref> 21create<main.Old ref> 20both[U8 val, U16 val] 2o 1 20id[String val] 2o 1 20id[main.Old ref] 2o 2o 21of[Bool val]<main.Old ref> 1true<Bool val>\n  x(): U16 val^ => 1\n  made(): main.Cell[U16 val] ref => 21create<main.Cell[U16 val] ref> 20x 3",
	}
	got := own(r)
	if len(got) != len(want) {
		t.Fatalf("%d entities: %s", len(got), programNames(got))
	}
	for i, w := range want {
		if g := literals.Replace(show(got[i])); g != w {
			t.Errorf("%s\nwant %s", g, w)
		}
	}
	closed(t, r)
	again, e := Reify(r, "main.Main")
	if e != api.OK || !names.Equal(again, r) {
		t.Errorf("Reify of Reify: %d entities, error %d", len(again), e)
	}
	if !names.Equal(p, program(t, reified)) {
		t.Error("Reify has changed its argument")
	}
}

// literals takes the types of the literals of reified away.
var literals = strings.NewReplacer("11<USize val>", "1", "11<U16 val>", "1", "\"main.Cell[U16 val]\"", "main.Cell[U16 val]", "\"main.Cell[U32 val]\"", "main.Cell[U32 val]", "\"main.T[U16 val]\"", "main.T[U16 val]")

// closed checks P10.5.
func closed(t *testing.T, p []api.Entity) {
	t.Helper()
	seen := map[string]bool{}
	for _, e := range p {
		if seen[e.Name] || len(e.Bounds) > 0 {
			t.Fatalf("%s is there twice, or has type parameters", e.Name)
		}
		seen[e.Name] = true
	}
	for _, e := range p {
		look := func(x api.Type) {
			for n := range walk.Nodes(x) {
				if n.Kind == api.TypeParam || n.Kind == api.TypeName && (len(n.Args) > 0 || !seen[n.Name]) {
					t.Fatalf("%s has the type %v", e.Name, x)
				}
			}
		}
		for _, x := range e.Provides {
			look(x)
		}
		for _, f := range e.Fields {
			look(f.Type)
		}
		for _, m := range e.Methods {
			if len(m.Bounds) > 0 {
				t.Fatalf("%s.%s has type parameters", e.Name, m.Name)
			}
			look(m.Result)
			for _, x := range m.Params {
				look(x.Type)
			}
			for x := range walk.Exprs(m.Body) {
				for _, y := range x.Types {
					look(y)
				}
			}
		}
	}
}

// base returns a program with an actor Main that has a field of each type, and some entities.
func base(t *testing.T, fields string, more ...api.Entity) []api.Entity {
	t.Helper()
	main := api.Entity{Kind: api.Actor, Name: "m.Main", Cap: api.Tag, Methods: []api.Method{{Kind: api.New, Name: "create", Cap: api.Tag}}}
	for _, x := range list(t, fields) {
		main.Fields = append(main.Fields, api.Field{Name: "f", Type: x})
	}
	any := api.Bound{Name: "A", Type: types.Named("Any", api.CapAny, nil)}
	cell := api.Entity{Kind: api.Class, Name: "m.Cell", Cap: api.Ref, Bounds: []api.Bound{any}}
	pair := api.Entity{Kind: api.Class, Name: "m.Pair", Cap: api.Ref, Bounds: []api.Bound{any, {Name: "B", Type: typ(t, "m.Cell[$A] box")}}}
	return append([]api.Entity{{Kind: api.Interface, Name: "Any", Cap: api.Tag}, {Kind: api.Primitive, Name: "N", Cap: api.Val}, cell, pair, main}, more...)
}

func programNames(p []api.Entity) string {
	var l []string
	for _, e := range p {
		l = append(l, e.Name)
	}
	return strings.Join(l, "; ")
}

// TestReifyErrors: the least of all errors, and those ahead of them.
func TestReifyErrors(t *testing.T) {
	bad := api.Type{Kind: 9}
	method := func(m api.Method) api.Entity {
		return api.Entity{Kind: api.Class, Name: "Own", Cap: api.Ref, Methods: []api.Method{m}}
	}
	call := func(name string, args ...api.Type) api.Expr {
		return api.Expr{Op: api.OpCall, Text: name, Types: args, Kids: []api.Expr{{Op: api.OpThis}}}
	}
	long := "\"" + strings.Repeat("x", 100) + "-"
	var deep api.Type = typ(t, "N val")
	for range 18 {
		deep = types.Named("m.Cell", api.Ref, []api.Type{deep})
	}
	for i, x := range []struct {
		fields string
		more   []api.Entity
		want   api.Errno
		names  string
	}{
		{"", nil, api.OK, "Any; N; m.Main"}, {"m.Cell[N val] ref", nil, api.OK, "Any; N; m.Cell[N val]; m.Main"}, {"m.Cell[m.Cell[N val] iso] ref; m.Cell[N val!] val", nil, api.OK, "Any; N; m.Cell[N val]; m.Cell[m.Cell[N val] iso]; m.Main"},
		{"m.Pair[N val, m.Cell[N val] ref] ref", nil, api.OK, "Any; N; m.Cell[N val]; m.Pair[N val, m.Cell[N val] ref]; m.Main"}, {"(N val, (m.Cell[(N val | N val)] ref | this ref))", nil, api.OK, "Any; N; m.Cell[N val]; m.Main"},
		{"m.Z ref", nil, api.ErrNone, ""}, {"m.Cell ref", nil, api.ErrArg, ""}, {"m.Cell[$X] ref", nil, ErrUnbound, ""}, {"$X", nil, ErrUnbound, ""}, {"($X -> N val)", nil, ErrUnbound, ""}, {"m.Cell[this] ref", nil, ErrBound, ""},
		{"m.Pair[N val, N val] ref", nil, ErrBound, ""}, {"m.Z[$X] ref", nil, api.ErrNone, ""}, {"m.Z[m.Cell ref] ref", nil, api.ErrNone, ""}, {"m.Cell[m.Z ref] ref", nil, api.ErrNone, ""}, {"m.Z ref; m.Cell ref; $X", nil, api.ErrArg, ""},
		{"m.Cell[(this tag -> N val)] ref", nil, api.ErrCap, ""}, {"m.Cell[(this ref -> $X)] ref", nil, api.ErrForm, ""}, {"m.Cell[" + long + "\" ref] ref", []api.Entity{{Kind: api.Class, Name: strings.Repeat("x", 100) + "-"}}, api.OK, "Any; N; m.Cell[" + long + "\" ref]; m.Main; " + strings.Repeat("x", 100) + "-"},
		{"", []api.Entity{method(api.Method{Kind: api.Fun, Name: "f", Cap: api.Box, Result: bad})}, api.ErrForm, ""}, {"", []api.Entity{method(api.Method{Kind: api.Fun, Name: "f", Cap: api.Box, Body: call("g", deep)})}, api.OK, ""},
		{"", []api.Entity{method(api.Method{Kind: api.Fun, Name: "f", Cap: api.Box, Bounds: []api.Bound{{Name: "A", Type: types.Named("Any", api.CapAny, nil)}}})}, api.ErrForm, ""},
		{"", []api.Entity{method(api.Method{Kind: api.Fun, Name: "f", Cap: api.Box, Bounds: []api.Bound{{Name: "A", Type: typ(t, "Any tag")}}, Result: typ(t, "m.Z ref")})}, api.OK, "Any; N; m.Main; Own"},
		{"", []api.Entity{method(api.Method{Kind: api.Fun, Name: "f", Cap: api.Box, Bounds: []api.Bound{{Name: "A", Type: typ(t, "Any tag")}}, Result: typ(t, "m.Z ref")}), {Kind: api.Class, Name: "By", Methods: []api.Method{{Kind: api.New, Name: "c", Cap: api.Ref, Body: call("f", typ(t, "N val"))}}}}, api.ErrNone, ""},
		{"", []api.Entity{method(api.Method{Kind: api.Fun, Name: "f", Cap: api.Box, Body: call(strings.Repeat("g", 295), typ(t, "N val"))})}, api.ErrLarge, ""}, {"", []api.Entity{method(api.Method{Kind: api.Fun, Name: "f", Cap: api.Box, Body: call("g", typ(t, "$X"))})}, ErrUnbound, ""},
		{"", []api.Entity{{Kind: api.Class, Name: "Own", Provides: list(t, "m.T ref")}, {Kind: api.Trait, Name: "m.T", Methods: []api.Method{{Kind: api.Fun, Name: "f", Cap: api.Box}}}}, ErrMethod, ""},
		{"", []api.Entity{{Kind: api.Class, Name: "m.L", Bounds: []api.Bound{{Name: "A", Type: typ(t, "Any tag")}}, Fields: []api.Field{{Name: "x", Type: typ(t, "m.L[m.Cell[$A] ref] ref")}}}}, ErrGrow, ""},
		{"m.Cell[N val] ref", []api.Entity{{Kind: api.Class, Name: "m.Cell[N val]"}, {Kind: api.Class, Name: "X", Provides: []api.Type{types.Named("m.Cell[N val]", api.Ref, nil)}}}, api.ErrTwice, ""},
		{"m.Cell[N val] ref", []api.Entity{{Kind: api.Class, Name: "m.Cell[N val]"}}, api.OK, "Any; N; m.Cell[N val]; m.Main"}, {"", []api.Entity{{Fields: make([]api.Field, 65)}}, api.ErrSize, ""},
		{"", []api.Entity{{Kind: api.Primitive, Name: "N", Fields: []api.Field{{Type: bad}}}, {Kind: api.Trait, Name: "Any", Bounds: make([]api.Bound, 1)}}, api.OK, "Any; N; m.Main"},
	} {
		p := base(t, x.fields, x.more...)
		r, e := Reify(p, "m.Main")
		if e != x.want || e != api.OK && r != nil {
			t.Errorf("%d: %s, error %d, want %d", i, programNames(r), e, x.want)
		} else if x.names != "" && programNames(r) != x.names {
			t.Errorf("%d: %s, want %s", i, programNames(r), x.names)
		}
		if e == api.OK {
			closed(t, r)
		}
	}
	p := base(t, "")
	for i, change := range []func(e *api.Entity){
		func(e *api.Entity) { e.Kind = api.Class }, func(e *api.Entity) { e.Name = "Other" }, func(e *api.Entity) { e.Bounds = make([]api.Bound, 1) }, func(e *api.Entity) { e.Methods = nil },
		func(e *api.Entity) { e.Methods = []api.Method{{Kind: api.Be, Name: "create"}} }, func(e *api.Entity) {
			e.Methods = []api.Method{{Kind: api.New, Name: "create", Bounds: make([]api.Bound, 1)}}
		}, func(e *api.Entity) { e.Methods[0].Name = "make" },
	} {
		q := base(t, "")
		change(&q[4])
		q = append(q, api.Entity{Kind: api.Class, Name: "Own", Provides: list(t, "m.T ref")}, api.Entity{Kind: api.Trait, Name: "m.T", Methods: []api.Method{{Kind: api.Fun, Name: "f"}}})
		if r, e := Reify(q, "m.Main"); e != api.ErrNone || r != nil {
			t.Errorf("%d: %s, error %d", i, programNames(r), e)
		}
	}
	if _, e := Reify(p, "m.Cell"); e != api.ErrNone {
		t.Errorf("Reify of a class: error %d", e)
	}
}

// subsets returns the types of the unions of N with some capabilities, of which there are 63.
func subsets(t *testing.T) []api.Type {
	t.Helper()
	var all []api.Type
	for bits := 1; bits < 64; bits++ {
		var l []api.Type
		for c := range 6 {
			if bits>>c&1 != 0 {
				l = append(l, types.Named("N", c+1, nil))
			}
		}
		u, e := types.Union(l)
		if e != api.OK {
			t.Fatal(e)
		}
		all = append(all, u)
	}
	return all
}

// TestFull: more instances, and more methods, than there may be.
func TestFull(t *testing.T) {
	var cells []api.Type
	for _, u := range subsets(t) {
		cells = append(cells, types.Named("m.Cell", api.Ref, []api.Type{u}))
	}
	for c := api.Iso; c <= api.Ref; c++ {
		for _, u := range cells[:63] {
			u.Cap = c
			cells = append(cells, types.Named("m.Cell", api.Ref, []api.Type{u}))
		}
	}
	for n, want := range map[int]api.Errno{200: api.OK, 201: api.ErrFull} {
		p := base(t, "")
		for i := range 4 {
			p = append(p, api.Entity{Kind: api.Class, Name: "Use" + strings.Repeat("x", i), Cap: api.Ref})
		}
		for i, c := range cells[:n-7] { // beside Any, N, Main and the four
			use := &p[len(p)-1-i%4]
			use.Fields = append(use.Fields, api.Field{Name: "f", Type: c})
		}
		p[4].Fields = []api.Field{{Name: "f", Type: typ(t, "m.Cell[N val] ref")}}
		r, e := Reify(p, "m.Main")
		if e != want || e == api.OK && len(r) != 200 {
			t.Errorf("%d instances: %d, error %d, want %d", n, len(r), e, want)
		}
		p[4].Fields[0].Type = typ(t, "m.Z ref")
		if _, e := Reify(p, "m.Main"); want == api.ErrFull && e != want || want == api.OK && e != api.ErrNone {
			t.Errorf("%d instances, and an unknown name: error %d", n, e)
		}
	}
	for n, want := range map[int]api.Errno{62: api.OK, 63: api.ErrFull} {
		m := api.Method{Kind: api.Fun, Name: "f", Cap: api.Box, Bounds: []api.Bound{{Name: "A", Type: typ(t, "Any tag")}}}
		other := api.Method{Kind: api.Fun, Name: "z", Cap: api.Box, Result: typ(t, "N val")}
		own := api.Entity{Kind: api.Class, Name: "Own", Cap: api.Ref, Methods: []api.Method{m, {Kind: api.New, Name: "create", Cap: api.Ref}, other}}
		own.Methods[1].Body = api.Expr{Op: api.OpSeq}
		for _, u := range append(subsets(t)[:n], typ(t, "this")) { // the last one does not fulfil the constraint
			call := api.Expr{Op: api.OpCall, Text: "f", Types: []api.Type{u}, Kids: []api.Expr{{Op: api.OpThis}}}
			own.Methods[1].Body.Kids = append(own.Methods[1].Body.Kids, call)
		}
		r, e := Reify(append(base(t, ""), own), "m.Main")
		if e != want || e == api.OK && len(r[3].Methods) != 64 {
			t.Fatalf("%d variants: error %d, want %d", n, e, want)
		}
		if e == api.OK && (!slices.IsSortedFunc(r[3].Methods[:62], func(a, b api.Method) int { return strings.Compare(a.Name, b.Name) }) || r[3].Methods[62].Name != "create") {
			t.Error("variants are not in order")
		}
	}
}

// randomProgram returns a program by chance, as P10.5 wants it.
func randomProgram(m *samples.Maker) []api.Entity {
	kinds := map[string]int{"N": 0, "Any": 0, "m.Main": 0, "m.C": 1, "m.D": 2, "m.T": 1, "m.U": 0, "m.I": 0}
	any := func(name string) api.Bound {
		b := api.Bound{Name: name, Type: types.Named("Any", api.CapAny-m.Below(5)*m.Below(2), nil)}
		if m.Below(3) == 0 {
			b.Type.Cap = api.Tag
		}
		return b
	}
	method := func(name string, params []string, generic bool) api.Method {
		x := api.Method{Kind: api.Fun, Name: name, Cap: 1 + m.Below(6)}
		if generic {
			x.Bounds = []api.Bound{{Name: "M", Type: types.Named("Any", api.Tag, nil)}}
			params = append(slices.Clone(params), "M")
		}
		x.Result = m.CoreType(1+m.Below(2), kinds, params...)
		for range m.Below(2) {
			x.Params = append(x.Params, api.Param{Name: "x", Type: m.CoreType(1, kinds, params...)})
		}
		body := api.Expr{Op: api.OpSeq}
		for range m.Below(3) {
			one := api.Expr{Op: api.OpCall, Text: m.One("f", "g"), Kids: []api.Expr{{Op: api.OpThis}}}
			if m.Below(2) == 0 {
				one.Text = m.One("p", "q")
				one.Types = []api.Type{m.CoreType(1+m.Below(2), kinds, params...)}
			}
			if m.Below(4) == 0 {
				one = api.Expr{Op: api.OpNew, Text: "create", Types: []api.Type{m.CoreType(1, kinds, params...)}}
				if one.Types[0].Kind != api.TypeName {
					one = api.Expr{Op: api.OpUnit, Types: []api.Type{types.Named("N", api.Val, nil)}}
				}
			}
			body.Kids = append(body.Kids, one)
		}
		if m.Below(4) > 0 {
			x.Body = body
		}
		return x
	}
	all := []string{"f", "g", "p", "q"}[:2+2*m.Below(2)]
	entity := func(kind int, name string, params ...string) api.Entity {
		e := api.Entity{Kind: kind, Name: name, Cap: api.Ref}
		for _, p := range params {
			e.Bounds = append(e.Bounds, any(p))
		}
		for range m.Below(2) * map[bool]int{true: 1}[kind == api.Class] {
			e.Fields = append(e.Fields, api.Field{Name: "v", Type: m.CoreType(1+m.Below(2), kinds, params...)})
		}
		for _, name := range all {
			if m.Below(2) == 0 {
				e.Methods = append(e.Methods, method(name, params, name > "o"))
			}
		}
		return e
	}
	p := []api.Entity{{Kind: api.Interface, Name: "Any", Cap: api.Tag}, {Kind: api.Primitive, Name: "N", Cap: api.Val}}
	p = append(p, entity(api.Class, "m.C", "A"), entity(api.Class, "m.D", "A", "B"), entity(api.Trait, "m.T", "A"), entity(api.Trait, "m.U"), entity(api.Interface, "m.I"), entity(api.Actor, "m.Main"))
	for _, i := range []int{2, 3, 7} {
		for range m.Below(3) {
			s := types.Named(m.One("m.U", "m.I", "m.T"), api.Ref, nil)
			if s.Name == "m.T" {
				arg := types.Named(m.One("N", "m.U"), 1+m.Below(6), nil)
				if len(p[i].Bounds) > 0 && m.Below(2) == 0 {
					arg = api.Type{Kind: api.TypeParam, Name: "A"}
				}
				s.Args = []api.Type{arg}
			}
			p[i].Provides = append(p[i].Provides, s)
		}
	}
	p[7].Methods = append(p[7].Methods, api.Method{Kind: api.New, Name: "create", Cap: api.Tag})
	p[7].Fields = append(p[7].Fields, api.Field{Name: "w", Type: m.CoreType(2, kinds)})
	return p
}

// TestLaws: P10.2 to P10.5 for programs by chance.
func TestLaws(t *testing.T) {
	codes, parts := map[api.Errno]int{}, 0
	for seed := range uint64(6000) {
		m := samples.New(seed)
		p := randomProgram(m)
		w, e := Whole(p)
		if e == api.OK {
			wholeLaws(t, p, w)
		}
		ends, at, f := Ends(p)
		if f != api.OK || ends != (len(at) == 0) {
			t.Fatalf("seed %d: Ends: %v, %v, error %d", seed, ends, at, f)
		}
		l, _ := Edges(p)
		fewer, _ := Edges(slices.Delete(slices.Clone(p), 2, 3))
		if more, _ := Edges(append(slices.Clone(p), api.Entity{Name: "m.New", Bounds: p[3].Bounds, Fields: p[3].Fields})); !subset(fewer, l) || !subset(l, more) {
			t.Fatalf("seed %d: with more entities there are fewer edges", seed)
		}
		r, e := Reify(p, "m.Main")
		codes[e]++
		if e == ErrGrow && ends {
			t.Fatalf("seed %d: ErrGrow of what ends", seed)
		}
		if e != api.OK {
			continue
		}
		closed(t, r)
		instances(t, w, r)
		again, e := Reify(r, "m.Main")
		if e != api.OK || mixedNames(p) {
			continue
		}
		if parts++; !part(again, r) {
			t.Fatalf("seed %d: Reify of Reify is no part: %s of %s", seed, programNames(again), programNames(r))
		}
	}
	if codes[api.OK] < 300 || codes[ErrGrow] < 20 || codes[ErrMethod] < 100 || codes[ErrBound] < 20 || parts < 100 {
		t.Errorf("Reify: %v, %d twice", codes, parts)
	}
}

func subset(a, b []Edge) bool {
	return !slices.ContainsFunc(a, func(e Edge) bool { return !slices.Contains(b, e) })
}

// mixedNames reports whether two entities have methods with the same name of which one has type parameters.
func mixedNames(p []api.Entity) bool {
	count, generic := map[string]int{}, map[string]bool{}
	for _, e := range p {
		for _, m := range e.Methods {
			count[m.Name]++
			generic[m.Name] = generic[m.Name] || len(m.Bounds) > 0
		}
	}
	for name := range count {
		if count[name] > 1 && generic[name] {
			return true
		}
	}
	return false
}

// part reports whether a program is a part of another one, in its order.
func part(a, b []api.Entity) bool {
	for _, e := range b {
		if len(a) > 0 && names.Equal(a[:1], []api.Entity{e}) {
			a = a[1:]
		}
	}
	return len(a) == 0
}

// wholeLaws checks P10.2.
func wholeLaws(t *testing.T, p, w []api.Entity) {
	t.Helper()
	again, e := Whole(w)
	if e != api.OK || !names.Equal(again, w) {
		t.Fatalf("Whole of Whole differs, error %d: %s", e, programNames(p))
	}
	for i, x := range p {
		if x.Kind != api.Class && x.Kind != api.Actor {
			continue
		}
		var args []api.Type
		for range x.Bounds {
			args = append(args, types.Named("N", api.Val, nil))
		}
		a := types.Named(x.Name, api.Ref, args)
		for _, y := range p {
			b := types.Named(y.Name, api.Ref, slices.Repeat([]api.Type{types.Named("N", api.Val, nil)}, len(y.Bounds)))
			if subtype.Is(p, a, b) && !subtype.Is(w, a, b) {
				t.Fatalf("%s is no more a subtype of %s", x.Name, y.Name)
			}
		}
		for _, m := range w[i].Methods {
			found, from, e := Find(p, x.Name, m.Name)
			if e != api.OK || !reflect.DeepEqual(showMethod(found), showMethod(m)) {
				t.Fatalf("%s.%s of Whole is not what Find returns", x.Name, m.Name)
			}
			if at, _ := subtype.Find(p, from); !walk.IsNone(m.Body) && !slices.ContainsFunc(p[at].Methods, func(n api.Method) bool { return n.Name == m.Name && !walk.IsNone(n.Body) }) {
				t.Fatalf("%s.%s has its body not from %s", x.Name, m.Name, from)
			}
		}
	}
}

// instances checks P10.3: entities without generic methods are instances of Whole, but for flat types.
func instances(t *testing.T, w, r []api.Entity) {
	t.Helper()
	for _, e := range r {
		name, rest, _ := strings.Cut(strings.TrimSuffix(e.Name, "]"), "[")
		at, _ := subtype.Find(w, name)
		if slices.ContainsFunc(w[at].Methods, func(m api.Method) bool { return len(m.Bounds) > 0 }) {
			continue
		}
		var args []api.Type
		if tuple, f := types.Parse("(" + rest + ", N val)"); f == api.OK {
			args = tuple.Args[:len(tuple.Args)-1]
		}
		i, f := Instance(w, name, args)
		if f != api.OK || show(flat(i)) != show(e) {
			t.Fatalf("%s\nis not the instance, error %d\n%s", show(e), f, show(flat(i)))
		}
	}
}

// flat returns an entity with flat types.
func flat(e api.Entity) api.Entity {
	var typ func(x api.Type) api.Type
	typ = func(x api.Type) api.Type {
		if x.Kind == api.TypeName {
			x.Name, _ = Named(x.Name, x.Args)
			x.Args = nil
		}
		x.Args = slices.Clone(x.Args)
		for i := range x.Args {
			x.Args[i] = typ(x.Args[i])
		}
		return x
	}
	for i := range e.Provides {
		e.Provides[i] = typ(e.Provides[i])
	}
	for i := range e.Fields {
		e.Fields[i].Type = typ(e.Fields[i].Type)
	}
	var expr func(x api.Expr) api.Expr
	expr = func(x api.Expr) api.Expr {
		old := x.Types
		if x.Op == api.OpCall && len(old) > 0 {
			x.Text, _ = Named(x.Text, old)
			old = nil
		}
		x.Types = nil
		for _, y := range old {
			x.Types = append(x.Types, typ(y))
		}
		x.Kids = slices.Clone(x.Kids)
		for i := range x.Kids {
			x.Kids[i] = expr(x.Kids[i])
		}
		return x
	}
	for i, m := range e.Methods {
		for j := range m.Params {
			m.Params[j].Type = typ(m.Params[j].Type)
		}
		m.Result, m.Body = typ(m.Result), expr(m.Body)
		e.Methods[i] = m
	}
	return e
}

// TestReifyKindZero: a type of the Kind 0 in a method stays, and the names in it are needed and made flat.
func TestReifyKindZero(t *testing.T) {
	p := program(t, "actor Main\n  new create(env: Env) => None\n  fun f(): U8 => 1\nclass L[A: Any #any]\n")
	f := func(l []api.Entity) *api.Method {
		i := slices.IndexFunc(l, func(e api.Entity) bool { return e.Name == "main.Main" })
		return &l[i].Methods[slices.IndexFunc(l[i].Methods, func(m api.Method) bool { return m.Name == "f" })]
	}
	f(p).Result = api.Type{Mark: api.Ephemeral, Args: list(t, "main.L[U8 val] ref")}
	l, e := Reify(p, "main.Main")
	if e != api.OK || !slices.ContainsFunc(l, func(e api.Entity) bool { return e.Name == "main.L[U8 val]" }) {
		t.Fatalf("Reify: error %d, %v", e, l)
	}
	if got, want := f(l).Result, (api.Type{Mark: api.Ephemeral, Args: []api.Type{types.Named("main.L[U8 val]", api.Ref, nil)}}); !types.Equal(got, want) {
		t.Errorf("the result: %v", got)
	}
	f(p).Result = api.Type{Args: list(t, "$X")}
	if _, e := Reify(p, "main.Main"); e != ErrUnbound {
		t.Errorf("a type parameter that is left: error %d", e)
	}
}
