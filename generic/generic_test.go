package generic_test

import (
	"reflect"
	"slices"
	"strconv"
	"strings"
	"testing"

	"hackamore/api"
	. "hackamore/generic"
	"hackamore/names"
	"hackamore/parser"
	"hackamore/sugar"
	"hackamore/types"
	"hackamore/walk"
)

// program returns the entities of a text of the package main, behind the builtin ones.
func program(t *testing.T, text string) []api.Entity {
	t.Helper()
	n, at, e := parser.Parse(text)
	if e != api.OK {
		t.Fatalf("error %d at %d", e, at)
	}
	n, _, e = sugar.Module(n, nil)
	if e != api.OK {
		t.Fatalf("sugar: error %d", e)
	}
	p, fault, e := names.Resolve([]names.Source{{Package: "main", Tree: n}}, nil)
	if e != api.OK {
		t.Fatalf("names: error %d at %v", e, fault)
	}
	return p
}

func typ(t *testing.T, s string) api.Type {
	t.Helper()
	r, e := types.Parse(s)
	if e != api.OK {
		t.Fatalf("%s: error %d", s, e)
	}
	return r
}

func list(t *testing.T, s string) []api.Type {
	t.Helper()
	var l []api.Type
	for part := range strings.SplitSeq(s, ";") {
		if part != "" {
			l = append(l, typ(t, strings.TrimSpace(part)))
		}
	}
	return l
}

// own returns the entities of package main alone.
func own(p []api.Entity) []api.Entity {
	return slices.DeleteFunc(slices.Clone(p), func(e api.Entity) bool { return !strings.HasPrefix(e.Name, "main.") })
}

func text(x api.Type) string {
	if s, e := types.Text(x); e == api.OK {
		return s
	}
	return "-"
}

// showExpr returns the operations of a body, with texts and types.
func showExpr(x api.Expr) string {
	var l []string
	for n := range walk.Exprs(x) {
		s := strconv.Itoa(n.Op) + n.Text
		for _, t := range n.Types {
			s += "<" + text(t) + ">"
		}
		l = append(l, s)
	}
	return strings.Join(l, " ")
}

func showMethod(m api.Method) string {
	s := m.Name
	for _, b := range m.Bounds {
		s += "[" + b.Name + ": " + text(b.Type) + "]"
	}
	s += "("
	for _, p := range m.Params {
		s += text(p.Type) + ","
	}
	s += "): " + text(m.Result)
	if !walk.IsNone(m.Body) {
		s += " => " + showExpr(m.Body)
	}
	return s
}

// show returns a text of an entity, a line each.
func show(e api.Entity) string {
	s := e.Name
	for _, b := range e.Bounds {
		s += "{" + b.Name + "}"
	}
	for _, t := range e.Provides {
		s += " is " + text(t)
	}
	for _, f := range e.Fields {
		s += "\n  " + f.Name + ": " + text(f.Type)
	}
	for _, m := range e.Methods {
		s += "\n  " + showMethod(m)
	}
	return s
}

const some = `trait T
  fun box t(): U32 => U32(1)
interface I
  fun box m(): U32
class C is T
  new create() => this
  fun box m(): U32 => U32(2)
class D
  new create() => this
  fun ref m(): U32 => U32(2)
class Cell[A: Any #any]
  new create() => this
class Pair[A: Any #share, B: Cell[A] box]
  new create() => this
`

// TestFulfils: constraints, and errors in their order.
func TestFulfils(t *testing.T) {
	p := program(t, some)
	bound := func(s string, c int) api.Bound {
		b := api.Bound{Name: "A", Type: typ(t, s)}
		if c != 0 {
			b.Type.Cap = c
		}
		return b
	}
	b := bound("main.T box", 0)
	wrong := api.Type{Kind: 9}
	large := api.Entity{Name: "Z", Fields: make([]api.Field, 65)}
	for i, x := range []struct {
		p      []api.Entity
		bounds []api.Bound
		args   []api.Type
		want   api.Errno
	}{
		{p, nil, nil, api.OK}, {p, []api.Bound{b}, list(t, "main.C ref"), api.OK}, {p, []api.Bound{b}, list(t, "main.C tag"), ErrBound}, {p, []api.Bound{b}, list(t, "main.D ref"), ErrBound}, {p, []api.Bound{b}, nil, api.ErrArg},
		{p, nil, list(t, "main.C ref"), api.ErrArg}, {p, []api.Bound{b}, []api.Type{wrong}, api.ErrForm}, {p, []api.Bound{b, b}, []api.Type{typ(t, "$X"), wrong}, api.ErrForm}, {p, []api.Bound{b, b}, list(t, "main.D ref; L[$X] ref"), ErrUnbound},
		{p, []api.Bound{{Name: "A", Type: wrong}}, list(t, "main.C ref"), api.ErrForm}, {p, []api.Bound{b, {Name: "B", Type: wrong}}, list(t, "main.D ref; main.D ref"), ErrBound}, {p, []api.Bound{{Name: "B", Type: wrong}, b}, list(t, "main.D ref; main.D ref"), api.ErrForm},
		{p, []api.Bound{bound("main.T val", api.CapAny)}, list(t, "main.C tag"), api.OK}, {p, []api.Bound{bound("main.T val", api.CapRead)}, list(t, "main.C tag"), ErrBound}, {p, []api.Bound{bound("main.T val", api.CapRead)}, list(t, "main.C ref"), api.OK},
		{p, []api.Bound{bound("Any val", api.CapSend)}, list(t, "(main.C iso | main.D val)"), api.OK}, {p, []api.Bound{bound("Any val", api.CapSend)}, list(t, "(main.C iso, main.D ref)"), ErrBound}, {p, []api.Bound{bound("Any val", api.CapShare)}, list(t, "main.C iso!"), api.OK},
		{p, []api.Bound{bound("Any val", api.CapAlias)}, list(t, "main.C trn!"), api.OK}, {p, []api.Bound{bound("Any val", api.CapAlias)}, list(t, "main.C trn"), ErrBound}, {p, []api.Bound{bound("Any val", api.CapAny)}, list(t, "this"), ErrBound},
		{p, []api.Bound{bound("Any val", api.CapAny)}, list(t, "(this box -> main.C ref)"), ErrBound}, {p, []api.Bound{bound("main.I val", api.CapAny)}, list(t, "main.D tag"), api.OK}, {p, []api.Bound{bound("main.I val", 0)}, list(t, "main.D val"), ErrBound},
		{p, []api.Bound{{Name: "A", Type: types.Named("Any", 12, nil)}}, list(t, "main.C ref"), api.ErrForm}, {p, []api.Bound{{Name: "A", Type: api.Type{Kind: api.TypeParam, Name: "A", Cap: api.CapAny}}}, list(t, "main.C ref"), api.ErrForm},
		{p, []api.Bound{bound("Any tag", 0), {Name: "B", Type: typ(t, "main.Cell[$A] box")}}, list(t, "U8 val; main.Cell[U8 val] ref"), api.OK}, {p, []api.Bound{bound("Any tag", 0), {Name: "B", Type: typ(t, "main.Cell[$A] box")}}, list(t, "U8 val; main.Cell[U16 val] ref"), ErrBound},
		{p, []api.Bound{{Name: "A", Type: typ(t, "$A")}}, list(t, "main.C ref"), api.OK}, {p, []api.Bound{{Name: "A", Type: typ(t, "($A -> main.C ref)")}}, list(t, "(main.C ref | main.D ref)"), api.ErrForm},
		{append(p, large), []api.Bound{b}, nil, api.ErrSize},
	} {
		if e := Fulfils(x.p, x.bounds, x.args); e != x.want {
			t.Errorf("%d: error %d, want %d", i, e, x.want)
		}
	}
}

// TestNamed: names with type arguments.
func TestNamed(t *testing.T) {
	for i, x := range []struct {
		name, args, want string
		e                api.Errno
	}{
		{"f", "", "f", api.OK}, {"", "", "", api.OK}, {"C", "U8 val^", "C[U8 val]", api.OK}, {"C", "(D ref | (B ref | A ref)); L[U8 val] iso!", "C[(A ref | B ref | D ref), L[U8 val] iso!]", api.OK},
		{"C", "$X", "", ErrUnbound}, {"C", "(this tag -> $X)", "", ErrUnbound}, {"C", "(this tag -> X ref); $X", "", api.ErrCap}, {"C", "this", "C[this]", api.OK}, {"C", "\"a b\" ref", "C[\"a b\" ref]", api.OK},
		{strings.Repeat("x", 300), "", strings.Repeat("x", 300), api.OK}, {strings.Repeat("x", 301), "", "", api.ErrLarge}, {strings.Repeat("x", 293), "A ref", strings.Repeat("x", 293) + "[A ref]", api.OK}, {strings.Repeat("x", 294), "A ref", "", api.ErrLarge},
	} {
		if got, e := Named(x.name, list(t, x.args)); got != x.want || e != x.e {
			t.Errorf("%d: %q, error %d, want %q, %d", i, got, e, x.want, x.e)
		}
	}
	if s, e := Named("C", []api.Type{{Kind: 9}, typ(t, "$X")}); s != "" || e != api.ErrForm {
		t.Errorf("Named with a wrong type: %q, error %d", s, e)
	}
	if s, e := Named("C", []api.Type{typ(t, "$X"), {Kind: 9}}); s != "" || e != ErrUnbound {
		t.Errorf("Named with a wrong type behind: %q, error %d", s, e)
	}
}

const methods = `trait A
  fun box f(): U32 => U32(1)
  fun box g(): U32
  fun box k(): U32 => U32(9)
trait B is A
  fun box f(): U32 => U32(2)
trait C
  fun box f(): U32 => U32(3)
  fun box h(): U32 => U32(4)
trait G[X: Any #any]
  fun box p(x: X): X => x
  fun box q(): U32
class One is B
  new create() => this
  fun box g(): U32 => U32(5)
class Two is (B & C)
  new create() => this
  fun box f(): U32 => U32(6)
  fun box g(): U32
    => U32(7)
class Own is A
  new create() => this
  fun box f(): U32 => U32(8)
  fun ref g(): U32 => U32(8)
class Gen[Y: Any #any] is G[Y]
  new create() => this
  fun box q(): U32 => U32(1)
actor Act is G[Own]
  new create() => this
  fun box q(): U32 => U32(1)
  be go() => None
interface Face is A
`

// lit returns the literal of a body.
func lit(m api.Method) string {
	for x := range walk.Exprs(m.Body) {
		if x.Op == api.OpLit {
			return x.Text
		}
	}
	return "-"
}

// TestFind: which method an entity has.
func TestFind(t *testing.T) {
	p := program(t, methods)
	own := slices.IndexFunc(p, func(e api.Entity) bool { return e.Name == "main.Own" })
	p[own].Methods[1].Body = api.Expr{} // f without a body takes that of A, g as well, which has none
	p[own].Methods[2].Body = api.Expr{}
	for _, x := range []struct {
		entity, name, from, lit string
		want                    api.Errno
	}{
		{"main.A", "f", "main.A", "1", api.OK}, {"main.A", "g", "main.A", "-", api.OK}, {"main.B", "f", "main.B", "2", api.OK}, {"main.B", "k", "main.A", "9", api.OK}, {"main.B", "g", "main.A", "-", api.OK},
		{"main.One", "f", "main.B", "2", api.OK}, {"main.One", "k", "main.A", "9", api.OK}, {"main.One", "g", "main.One", "5", api.OK}, {"main.One", "create", "main.One", "-", api.OK}, {"main.One", "z", "", "", ErrMethod},
		{"main.Two", "f", "main.Two", "6", api.OK}, {"main.Two", "h", "main.C", "4", api.OK}, {"main.Own", "f", "main.A", "1", api.OK}, {"main.Own", "g", "main.Own", "-", api.OK}, {"main.Gen", "p", "main.G", "-", api.OK},
		{"main.Face", "f", "main.A", "1", api.OK}, {"main.Face", "g", "main.A", "-", api.OK}, {"main.Z", "f", "", "", api.ErrNone}, {"", "", "", "", api.ErrNone},
	} {
		m, from, e := Find(p, x.entity, x.name)
		if e != x.want || from != x.from || e == api.OK && (lit(m) != x.lit || m.Name != x.name) || e != api.OK && !reflect.DeepEqual(m, api.Method{}) {
			t.Errorf("%s.%s: %s from %s, error %d, want %s from %s, %d", x.entity, x.name, lit(m), from, e, x.lit, x.from, x.want)
		}
	}
	large := []api.Entity{{Name: "A", Methods: []api.Method{{Body: api.Expr{Kids: make([]api.Expr, 4000)}}}}}
	if m, from, e := Find(large, "Z", "f"); e != api.ErrSize || from != "" || !reflect.DeepEqual(m, api.Method{}) {
		t.Errorf("Find in a large program: error %d", e)
	}
	if w, e := Whole(large); e != api.ErrSize || w != nil {
		t.Errorf("Whole of a large program: error %d", e)
	}
	if w, e := Whole(make([]api.Entity, 201)); e != api.ErrSize || w != nil {
		t.Errorf("Whole of too many entities: error %d", e)
	}
	if m, _, e := Find(p, "main.Act", "p"); e != api.OK || text(m.Params[0].Type) != "main.Own ref" {
		t.Errorf("p of Act: %s, error %d", showMethod(m), e)
	}
	if m, _, e := Find(p, "main.Gen", "p"); e != api.OK || text(m.Params[0].Type) != "$Y" {
		t.Errorf("p of Gen: %s, error %d", showMethod(m), e)
	}
}

// TestClear: defaults that are not clear, and what concrete entities must have.
func TestClear(t *testing.T) {
	fun := func(name, lit string) api.Method {
		m := api.Method{Kind: api.Fun, Name: name, Cap: api.Box}
		if lit != "" {
			m.Body = api.Expr{Op: api.OpLit, Text: lit}
		}
		return m
	}
	entity := func(kind int, name string, provides string, l ...api.Method) api.Entity {
		return api.Entity{Kind: kind, Name: name, Cap: api.Ref, Provides: list(t, provides), Methods: l}
	}
	p := []api.Entity{
		entity(api.Trait, "A", "", fun("f", "1")), entity(api.Trait, "B", "A ref", fun("f", "2")), entity(api.Trait, "C", "", fun("f", "3")), entity(api.Trait, "D", "", fun("f", ""), fun("g", "")),
		entity(api.Class, "AB", "A ref; B ref"), entity(api.Class, "BA", "B ref; A ref"), entity(api.Class, "BC", "B ref; C ref"), entity(api.Trait, "TBC", "B ref; C ref"), entity(api.Class, "OwnBC", "B ref; C ref", fun("f", "")),
		entity(api.Class, "DB", "D ref; B ref", fun("g", "5")), entity(api.Class, "JustD", "D ref"), entity(api.Trait, "TD", "D ref"), entity(api.Class, "Full", "B ref; C ref", fun("f", "6"), fun("f", "7")),
		entity(api.Trait, "Twice", "", fun("f", "8"), fun("f", "9")), entity(api.Class, "OfTwice", "Twice ref"), entity(api.Trait, "News", "", api.Method{Kind: api.New, Name: "f", Cap: api.Ref}), entity(api.Class, "OfNews", "News ref"),
		entity(api.Class, "A", "", fun("f", "hidden")), {Kind: api.Class, Name: "Long", Bounds: []api.Bound{{Name: ""}}},
	}
	for _, x := range []struct {
		entity, name, from, lit string
		want                    api.Errno
	}{
		{"AB", "f", "", "", ErrMethod}, {"BA", "f", "B", "2", api.OK}, {"BC", "f", "", "", ErrMethod}, {"TBC", "f", "", "", ErrMethod}, {"OwnBC", "f", "", "", ErrMethod}, {"DB", "f", "B", "2", api.OK}, {"DB", "g", "DB", "5", api.OK},
		{"JustD", "f", "", "", ErrMethod}, {"TD", "f", "D", "-", api.OK}, {"Full", "f", "Full", "6", api.OK}, {"OfTwice", "f", "Twice", "8", api.OK}, {"OfNews", "f", "", "", ErrMethod}, {"A", "f", "A", "1", api.OK}, {"Long", "f", "", "", api.ErrForm},
	} {
		m, from, e := Find(p, x.entity, x.name)
		if e != x.want || from != x.from || e == api.OK && lit(m) != x.lit {
			t.Errorf("%s.%s: %s from %s, error %d, want %s from %s, %d", x.entity, x.name, lit(m), from, e, x.lit, x.from, x.want)
		}
	}
	whole := func(l ...string) []api.Entity {
		q := slices.Clone(p[:4])
		for _, e := range p[4:] {
			if slices.Contains(l, e.Name) || e.Kind != api.Class {
				q = append(q, e)
			}
		}
		return q
	}
	for s, want := range map[string]api.Errno{"BA": api.OK, "BC": ErrMethod, "OwnBC": ErrMethod, "JustD": ErrMethod, "BA Full DB A": api.OK, "Long JustD": ErrMethod, "Long": api.ErrForm, "OfNews OfTwice": api.OK} {
		q, e := Whole(whole(strings.Fields(s)...))
		if e != want || e != api.OK && q != nil {
			t.Errorf("Whole of %s: %d entities, error %d, want %d", s, len(q), e, want)
		}
	}
	q, e := Whole([]api.Entity{entity(api.Class, "X", "", fun("f", "1"), fun("f", ""), api.Method{Kind: api.New, Name: "f"}, api.Method{Kind: 9, Name: "z"})})
	if e != api.OK || len(q[0].Methods) != 4 || lit(q[0].Methods[1]) != "1" || lit(q[0].Methods[2]) != "-" {
		t.Errorf("Whole of several methods with one name: %v, error %d", q, e)
	}
}

// TestWhole: P10.2 for a program.
func TestWhole(t *testing.T) {
	p := program(t, methods)
	w, e := Whole(p)
	if e != api.OK {
		t.Fatalf("Whole: error %d", e)
	}
	var l []string
	for _, e := range own(w) {
		s := strings.TrimPrefix(e.Name, "main.") + ":"
		for _, m := range e.Methods {
			s += " " + m.Name + lit(m)
		}
		l = append(l, s)
	}
	want := "A: f1 g- k9|B: f2|C: f3 h4|G: p- q-|One: create- g5 f2 k9|Two: create- f6 g7 h4 k9|Own: create- f8 g8 k9|Gen: create- q1 p-|Act: create- q1 go- p-|Face:"
	if got := strings.Join(l, "|"); got != want {
		t.Errorf("Whole: %s, want %s", got, want)
	}
	again, e := Whole(w)
	if e != api.OK || !names.Equal(again, w) {
		t.Errorf("Whole of Whole differs, error %d", e)
	}
	if !names.Equal(p, program(t, methods)) {
		t.Error("Whole has changed its argument")
	}
}

// TestInstance: instances and variants.
func TestInstance(t *testing.T) {
	p := program(t, "trait T[X: Any #any]\nclass L[A: Any #any, B: Any #any] is T[(A, B)]\n  var a: A\n  new create(a': A) => a = consume a'\n  fun box f[C: T[A] box](x: C, y: A): B^ ? => error\n  fun box g(): A! => C\nprimitive C\n")
	for s, want := range map[string]string{
		"U8 val; main.C val":  "main.L[U8 val, main.C val] is main.T[(U8 val, main.C val)] ref\n  a: U8 val\n  create(U8 val,): main.L[U8 val, main.C val] ref^ => 5a 3 9a'\n  f[C: main.T[U8 val] box]($C,U8 val,): main.C val ? => 16\n  g(): U8 val => 26<main.C val>",
		"main.C iso; U8 val^": "main.L[main.C iso, U8 val] is main.T[(main.C iso, U8 val^)] ref\n  a: main.C iso\n  create(main.C iso,): main.L[main.C iso, U8 val^] ref^ => 5a 3 9a'\n  f[C: main.T[main.C iso] box]($C,main.C iso,): U8 val ? => 16\n  g(): main.C iso! => 26<main.C val>",
	} {
		e, wrong := Instance(p, "main.L", list(t, s))
		if got := show(e); wrong != api.OK || got != strings.ReplaceAll(want, " ? =>", " =>") {
			t.Errorf("Instance with %s: %s, error %d", s, got, wrong)
		}
	}
	for i, x := range []struct {
		name, args string
		want       api.Errno
	}{
		{"main.Z", "", api.ErrNone}, {"main.L", "", api.ErrArg}, {"main.L", "U8 val; $X", ErrUnbound}, {"main.C", "", api.OK}, {"main.C", "U8 val", api.ErrArg}, {"main.T", "this", ErrBound}, {"main.L", "this; U8 val", ErrBound},
		{"main.T", "(this tag -> U8 val)", ErrBound}, {"main.T", "Unknown tag", api.OK},
	} {
		if e, wrong := Instance(p, x.name, list(t, x.args)); wrong != x.want || wrong != api.OK && !reflect.DeepEqual(e, api.Entity{}) {
			t.Errorf("%d: error %d, want %d", i, wrong, x.want)
		}
	}
	long := strings.Repeat("x", 290)
	q := append(slices.Clone(p), api.Entity{Kind: api.Primitive, Name: long})
	if _, e := Instance(q, "main.T", []api.Type{types.Named(long, api.Val, nil)}); e != api.ErrLarge {
		t.Errorf("a long name: error %d", e)
	}
	at := slices.IndexFunc(q, func(e api.Entity) bool { return e.Name == "main.L" })
	bad := api.Type{Kind: 9}
	for i, change := range []func(e *api.Entity){
		func(e *api.Entity) { e.Provides = []api.Type{bad} }, func(e *api.Entity) { e.Fields = []api.Field{{Name: "f", Type: bad}} }, func(e *api.Entity) { e.Methods = []api.Method{{Name: "f", Result: bad}} },
	} {
		e := q[at]
		change(&e)
		r := slices.Clone(q)
		r[at] = e
		if _, wrong := Instance(r, "main.L", list(t, "U8 val; U8 val")); wrong != api.ErrForm {
			t.Errorf("%d: error %d", i, wrong)
		}
	}
	if _, e := Instance(append(q, api.Entity{Methods: make([]api.Method, 65)}), "main.Z", nil); e != api.ErrSize {
		t.Errorf("Instance of a large program: error %d", e)
	}
	m := q[at].Methods[1]
	m.Result = typ(t, "(this -> $C!)")
	v, e := Variant(m, list(t, "(U8 val | U8 val)"))
	if e != api.OK || v.Name != "f[U8 val]" || len(v.Bounds) > 0 || text(v.Params[0].Type) != "(U8 val | U8 val)" || text(v.Params[1].Type) != "$A" || text(v.Result) != "(this -> (U8 val | U8 val))" {
		t.Errorf("Variant: %s, error %d", showMethod(v), e)
	}
	for i, x := range []struct {
		m    api.Method
		args []api.Type
		want api.Errno
	}{
		{m, nil, api.ErrArg}, {m, []api.Type{bad}, api.ErrForm}, {m, list(t, "$X"), ErrUnbound}, {m, list(t, "(this tag -> U8 val)"), api.ErrCap}, {api.Method{Name: "f", Result: bad}, nil, api.ErrForm}, {api.Method{Name: "f"}, nil, api.OK},
		{api.Method{Name: strings.Repeat("x", 301), Result: bad}, nil, api.ErrLarge}, {api.Method{Bounds: make([]api.Bound, 65)}, nil, api.ErrSize}, {api.Method{Params: make([]api.Param, 65)}, nil, api.ErrSize}, {api.Method{Body: api.Expr{Kids: make([]api.Expr, 4000)}}, list(t, "U8 val"), api.ErrSize},
	} {
		if v, e := Variant(x.m, x.args); e != x.want || e != api.OK && !reflect.DeepEqual(v, api.Method{}) {
			t.Errorf("%d: Variant: error %d, want %d", i, e, x.want)
		}
	}
}
