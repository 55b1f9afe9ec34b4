package subtype_test

import (
	"reflect"
	"slices"
	"strconv"
	"strings"
	"testing"

	"hackamore/api"
	"hackamore/names"
	"hackamore/parser"
	"hackamore/samples"
	. "hackamore/subtype"
	"hackamore/sugar"
	"hackamore/types"
)

// program returns the entities of a text without a package, behind the builtin ones.
func program(t *testing.T, text string) []api.Entity {
	t.Helper()
	n, at, e := parser.Parse(text)
	if e != api.OK {
		t.Fatalf("error %d at %d", e, at)
	}
	n, _, e = sugar.Module(n, nil)
	if e != api.OK {
		t.Fatalf("sugar: error %d", e)
	}
	p, fault, e := names.Resolve([]names.Source{{Package: "", Tree: n}}, nil)
	if e != api.OK {
		t.Fatalf("names: error %d at %v", e, fault)
	}
	return p
}

func typ(t *testing.T, s string) api.Type {
	t.Helper()
	r, e := types.Parse(s)
	if e != api.OK {
		t.Fatalf("%s: error %d", s, e)
	}
	return r
}

// show returns the text of a derivation.
func show(d Proof) string {
	s := strings.Fields("Super Structure Assumed UnionAll BothAll UnionOne BothOne Tuple Param")[d.Rule-1]
	if d.Rule == Super || d.Rule == UnionOne || d.Rule == BothOne {
		s += strconv.Itoa(d.N)
	}
	var kids []string
	for _, k := range d.Kids {
		kids = append(kids, show(k))
	}
	if len(kids) > 0 {
		s += "(" + strings.Join(kids, " ") + ")"
	}
	return s
}

const first = `trait T
  fun box t(): U32 => 1
trait U is T
  fun box u(): U32
interface I
  fun box m(): U32
interface J
  fun box m(): U32
  fun box n(x: I box): J box
class C is T
  new create() => this
  fun box m(): U32 => 2
class D is (U & I)
  new create() => this
  fun ref m(): U32 => 2
  fun box n(x: I box): J box => this
class E
  fun box m(): U32 => 2
  fun box n(x: I box): E box => this
class F
  fun box m(): U32 => 2
  fun box n(x: E box): E box => this
interface R
  fun box r(x: R box): R box
class S
  fun box r(x: R box): S box => this
actor A
  be go(x: U32) => None
interface G
  be go(x: U32)
interface K
  new create()
  fun ref m(): U32 ?
interface Empty
class L[X: Any #any]
trait W[X: Any #any] is V[(X, X)]
trait V[Y: Any #any]
class Q[Z: Any #any] is W[L[Z]]
class N is (W[C] & W[D val])
primitive P
`

// TestRules: questions with their derivations; an empty one is no.
func TestRules(t *testing.T) {
	p := program(t, first)
	for _, x := range [][3]string{
		{"C ref", "T box", "Super1"}, {"C ref", "I box", "Structure(Super0)"}, {"C ref", "(I val | I box)", "UnionOne1(Structure(Super0))"}, {"C ref", "I val", ""},
		{"C ref", "C ref", "Super0"}, {"C iso^", "C val", "Super0"}, {"C iso", "C val", ""}, {"C iso", "C iso!", "Super0"}, {"C iso!", "C iso", ""}, {"C ref^", "C ref!", "Super0"},
		{"C trn!", "T box", "Super1"}, {"C trn!", "T ref", ""}, {"D ref", "U box", "Super1"}, {"D ref", "I box", "Super2"}, {"D ref", "T box", "Super3"}, {"T ref", "U box", ""},
		{"C ref", "D ref", ""}, {"X ref", "X box", "Super0"}, {"X ref", "Empty box", "Structure"}, {"X ref", "I box", ""}, {"I box", "X box", ""}, {"I box", "J box", ""},
		{"J box", "I box", "Structure(Super0)"}, {"(C ref | E ref)", "I box", "UnionAll(Structure(Super0) Structure(Super0))"}, {"(C ref | T ref)", "I box", ""},
		{"C ref", "(I box & T box)", "BothAll(Structure(Super0) Super1)"}, {"C ref", "(I box & U box)", ""}, {"(T ref & I ref)", "I box", "BothOne1(Super0)"},
		{"(T ref & I ref)", "(U ref | I box)", "UnionOne1(BothOne1(Super0))"}, {"((T ref | I ref) & E ref)", "(T ref | C ref | I ref)", "UnionOne2(BothOne1(Structure(Super0)))"},
		{"((T ref | U ref) & U val)", "(T ref | U ref)", "UnionOne0(BothOne0(UnionAll(Super0 Super1)))"}, {"(C ref, P val)", "(T box, P val)", "Tuple(Super1 Super0)"},
		{"(C ref, P val)", "(T box, P val, P val)", ""}, {"(C ref, P val)", "(P val, T box)", ""}, {"(C ref, P val)", "P val", ""}, {"P val", "(P val, P val)", ""},
		{"$X", "$X", "Param"}, {"$X^", "$X", ""}, {"$X iso^", "$X iso", "Param"}, {"$X iso", "$X iso^", ""}, {"$X ref", "$X", ""}, {"$X", "$Y", ""}, {"$X ref^", "$X ref!", "Param"},
		{"this", "this", "Param"}, {"this!", "this", ""}, {"this ref", "this box", "Param"}, {"this box", "this ref", ""}, {"this", "this ref", ""}, {"this ref", "this", ""},
		{"(this -> C ref)", "(this -> C ref)", "Param"}, {"(this -> C ref)", "(this -> C box)", ""}, {"(this -> C ref)", "C ref", ""}, {"$X", "C ref", ""}, {"C ref", "$X", ""},
		{"L[C ref] ref", "L[C ref] box", "Super0(Super0 Super0)"}, {"L[C ref] ref", "L[C box] ref", ""}, {"L[C ref] ref", "L[T ref] ref", ""}, {"L[C ref^] ref", "L[C ref] ref", "Super0(Super0 Super0)"},
		{"L[C ref] ref", "L[C ref, C ref] ref", ""}, {"L[(C ref | D ref)] ref", "L[(D ref | C ref)] ref", "Super0(UnionAll(UnionOne1(Super0) UnionOne0(Super0)) UnionAll(UnionOne1(Super0) UnionOne0(Super0)))"},
		{"Q[C ref] ref", "W[L[C ref] ref] box", "Super1(Super0(Super0 Super0) Super0(Super0 Super0))"},
		{"Q[C ref] ref", "V[(L[C ref] ref, L[C ref] ref)] box", "Super2(Tuple(Super0(Super0 Super0) Super0(Super0 Super0)) Tuple(Super0(Super0 Super0) Super0(Super0 Super0)))"},
		{"N ref", "W[C ref] ref", "Super1(Super0 Super0)"}, {"N ref", "W[D val] ref", "Super2(Super0 Super0)"}, {"N ref", "W[D ref] ref", ""},
		{"E ref", "J box", "Structure(Super0 Super0 Structure(Super0 Super0 Assumed))"}, {"F ref", "J box", ""}, {"S ref", "R box", "Structure(Super0 Structure(Super0 Assumed))"},
		{"D ref", "J box", ""}, {"C ref", "K tag", "Structure(Structure(Assumed Super0) Super0)"}, {"A tag", "G tag", "Structure(Super0 Super0)"}, {"A tag", "G ref", ""}, {"P val", "Any tag", "Structure"}, {"P val", "Stringable box", ""},
		{"U32 val", "Stringable box", "Structure(Super0)"}, {"None val", "(None val | U32 val)", "UnionOne0(Super0)"},
	} {
		a, b := typ(t, x[0]), typ(t, x[1])
		d, e := Derive(p, a, b)
		got := ""
		if e == api.OK {
			got = show(d)
			if !types.Equal(d.A, a) || !types.Equal(d.B, b) {
				t.Errorf("%s, %s: the derivation is one of other types", x[0], x[1])
			}
			if e := Check(p, d); e != api.OK {
				t.Errorf("%s, %s: Check: error %d", x[0], x[1], e)
			}
		} else if e != api.ErrNone || !reflect.DeepEqual(d, Proof{}) {
			t.Errorf("%s, %s: error %d, %v", x[0], x[1], e, d)
		}
		if got != x[2] || Is(p, a, b) != (x[2] != "") || Same(p, a, b) != (Is(p, a, b) && Is(p, b, a)) {
			t.Errorf("%s, %s: %s, want %s", x[0], x[1], got, x[2])
		}
	}
}

// TestBare: answers without regard to capabilities: of the types themselves, and of receivers.
func TestBare(t *testing.T) {
	p := program(t, first)
	for _, x := range []struct {
		a, b string
		want bool
	}{
		{"C tag", "T iso", true}, {"C iso!", "I iso^", true}, {"D box", "I val", true}, {"D tag", "J iso", true}, {"L[C ref] tag", "L[C ref] iso", true}, {"L[C ref] tag", "L[C box] tag", false},
		{"$X^", "$X!", true}, {"$X ref", "$X val", false}, {"$X tag", "$X tag!", true}, {"this tag", "this iso", true}, {"this", "this iso", true}, {"$X", "$Y", false},
		{"(this -> C ref)", "(this -> C ref)", true}, {"(this -> C ref)", "(this -> C box)", false}, {"(C tag, P tag)", "(T iso, P iso)", true}, {"(C tag | E tag)", "(I iso & Any ref)", true},
		{"(T tag & I tag)", "(U ref | I ref)", true}, {"T ref", "U ref", false}, {"F ref", "J ref", false}, {"E tag", "J iso", true}, {"A tag", "G iso", true}, {"C ref", "K ref", true},
		{"D ref", "K ref", true}, {"P val", "K val", false},
	} {
		if got := Bare(p, typ(t, x.a), typ(t, x.b)); got != x.want {
			t.Errorf("Bare of %s, %s: %v", x.a, x.b, got)
		}
	}
}

// TestSupers: supertypes in order, with what is passed over, and the limit.
func TestSupers(t *testing.T) {
	p := program(t, first)
	show := func(l []api.Type) string {
		var s []string
		for _, x := range l {
			text, _ := types.Text(x)
			s = append(s, text)
		}
		return strings.Join(s, "; ")
	}
	for in, want := range map[string]string{
		"C ref": "C ref; T ref", "D iso!": "D iso!; U iso!; I iso!; T iso!", "Q[C ref] val": "Q[C ref] val; W[L[C ref] ref] val; V[(L[C ref] ref, L[C ref] ref)] val",
		"N ref": "N ref; W[C ref] ref; W[D val] ref; V[(C ref, C ref)] ref; V[(D val, D val)] ref",
	} {
		if l, e := Supers(p, typ(t, in)); e != api.OK || show(l) != want {
			t.Errorf("Supers of %s: %s, error %d, want %s", in, show(l), e, want)
		}
	}
	own := func(name string, provides ...api.Type) api.Entity {
		return api.Entity{Kind: api.Class, Name: name, Cap: api.Ref, Bounds: []api.Bound{{Name: "X"}}, Provides: provides}
	}
	x := api.Type{Kind: api.TypeParam, Name: "X"}
	l := []api.Entity{
		own("A", x, api.Type{Kind: 9}, types.Named("B", api.Box, nil), types.Named("None", api.Val, nil), typ(t, "($X | $X)"), types.Named("B", api.Iso, []api.Type{x}), typ(t, "A[$X] val"), typ(t, "B[$X val] tag")),
		own("B", typ(t, "A[$X] ref")), own("B", typ(t, "C[$X] ref")),
	}
	if got, e := Supers(l, typ(t, "A[B[C ref] ref] trn^")); e != api.OK || show(got) != "A[B[C ref] ref] trn^; B[C ref] trn^; B[B[C ref] ref] trn^; B[B[C ref] val] trn^; A[C ref] trn^; A[B[C ref] val] trn^; B[C val] trn^; A[C val] trn^" {
		t.Errorf("Supers with parts that are passed over: %s, error %d", show(got), e)
	}
	grow := []api.Entity{own("A", typ(t, "A[L[$X] ref] ref"), typ(t, "A[M[$X] ref] ref"))}
	got, e := Supers(grow, typ(t, "A[C ref] ref"))
	if want := "A[C ref] ref; A[L[C ref] ref] ref; A[M[C ref] ref] ref; A[L[L[C ref] ref] ref] ref"; e != api.OK || len(got) != MaxSupers || show(got[:4]) != want {
		t.Errorf("Supers that grow: %d, error %d: %s", len(got), e, show(got[:min(4, len(got))]))
	}
	if Is(grow, typ(t, "A[C ref] ref"), got[99]) != true || Is(grow, typ(t, "A[C ref] ref"), typ(t, "A[L[L[L[L[L[L[L[C ref] ref] ref] ref] ref] ref] ref] ref] ref")) {
		t.Error("what is found behind the limit counts")
	}
}

// TestMethods: methods of types, and which one counts; Lookup, and errors.
func TestMethods(t *testing.T) {
	p := program(t, first)
	list := func(l []api.Method) string {
		var s []string
		for _, m := range l {
			s = append(s, m.Name)
		}
		return strings.Join(s, " ")
	}
	for in, want := range map[string]string{"C ref": "create m t", "D val": "create m n u t", "J box": "m n", "P val": "", "N ref": "create", "T tag": "t"} {
		if l, e := Methods(p, typ(t, in)); e != api.OK || list(l) != want {
			t.Errorf("Methods of %s: %s, error %d, want %s", in, list(l), e, want)
		}
	}
	for in, want := range map[string]string{
		"C ref m": "box", "D ref m": "ref", "D ref t": "box", "(T ref & D ref & C ref) m": "ref", "(T ref & U ref) m": "", "(C ref | E ref) m": "box", "(C ref | D ref) m": "", "(C ref | (T ref & E val)) m": "box",
		"(C ref | T ref) m": "", "X ref m": "", "L ref create": "", "L[C ref] ref create": "ref", "$X m": "", "this m": "", "(C ref, C ref) m": "", "(this -> C ref) m": "", "C ref x": "",
	} {
		s, name, _ := cutLast(in)
		m, e := Lookup(p, typ(t, s), name)
		if got := map[int]string{api.Box: "box", api.Ref: "ref"}[m.Cap]; got != want || (e == api.OK) != (want != "") || e != api.OK && (e != api.ErrNone || !reflect.DeepEqual(m, api.Method{})) {
			t.Errorf("Lookup of %s: %s, error %d, want %s", in, got, e, want)
		}
	}
	array := typ(t, "Array[C iso] ref")
	if m, e := Lookup(p, array, "push"); e != api.OK || !types.Equal(m.Params[0].Type, typ(t, "C iso")) {
		t.Errorf("push of an Array[C iso]: %v, error %d", m, e)
	}
	if m, e := Lookup(p, array, "apply"); e != api.OK || !types.Equal(m.Result, typ(t, "(this -> C iso!)")) {
		t.Errorf("apply of an Array[C iso]: %v, error %d", m, e)
	}
}

func cutLast(s string) (string, string, bool) {
	i := strings.LastIndex(s, " ")
	return s[:i], s[i+1:], true
}

// TestMethodsPassedOver: a method with an error is passed over, and one of a supertype comes in its place.
func TestMethodsPassedOver(t *testing.T) {
	fun := func(name string, result api.Type, more ...api.Expr) api.Method {
		return api.Method{Kind: api.Fun, Name: name, Cap: api.Box, Result: result, Body: api.Expr{Op: api.OpSeq, Kids: more}}
	}
	val := types.Named("None", api.Val, nil)
	l := []api.Entity{
		{Kind: api.Class, Name: "A", Provides: []api.Type{types.Named("B", api.Ref, nil)}, Methods: []api.Method{
			fun("a", api.Type{Kind: 9}), fun("b", val, api.Expr{Op: api.OpUnit, Types: []api.Type{{Kind: 9}}}), fun("c", val), fun("c", typ(t, "A ref")),
			{Kind: api.Fun, Name: "d", Bounds: []api.Bound{{Name: "X", Type: types.Named("Any", api.CapAny, nil)}}}}},
		{Kind: api.Trait, Name: "B", Methods: []api.Method{fun("d", val), fun("b", val), fun("a", val)}},
	}
	got, e := Methods(l, types.Named("A", api.Ref, nil))
	if e != api.OK || len(got) != 4 || got[0].Name != "c" || !types.Equal(got[0].Result, val) || got[1].Name != "d" || len(got[1].Bounds) > 0 || got[2].Name != "b" || got[3].Name != "a" {
		t.Errorf("Methods: %v, error %d", got, e)
	}
	if m, e := Lookup(l, types.Named("A", api.Ref, nil), "a"); e != api.OK || !types.Equal(m.Result, val) {
		t.Errorf("Lookup of one that is passed over: %v, error %d", m, e)
	}
}

// TestMethodsKindZero: types of the Kind 0 are no errors of a method.
func TestMethodsKindZero(t *testing.T) {
	odd := api.Type{Mark: api.Ephemeral, Args: []api.Type{{}}}
	l := []api.Entity{{Kind: api.Class, Name: "A", Methods: []api.Method{{Kind: api.Fun, Name: "m", Cap: api.Box, Result: odd}}}}
	a := types.Named("A", api.Ref, nil)
	if got, e := Methods(l, a); e != api.OK || !reflect.DeepEqual(got, l[0].Methods) {
		t.Errorf("Methods: %v, error %d", got, e)
	}
	if m, e := Lookup(l, a, "m"); e != api.OK || !reflect.DeepEqual(m, l[0].Methods[0]) {
		t.Errorf("Lookup: %v, error %d", m, e)
	}
}

// TestErrors: the errors of all functions, in their order.
func TestErrors(t *testing.T) {
	p := program(t, first)
	many := slices.Repeat([]api.Entity{{Kind: api.Class, Name: "C"}}, api.MaxUnits+1)
	wrong, right := api.Type{Kind: 9}, typ(t, "C ref")
	for i, x := range []struct {
		p    []api.Entity
		t    api.Type
		want api.Errno
	}{
		{many, wrong, api.ErrForm}, {many, right, api.ErrSize}, {many, typ(t, "$X"), api.ErrSize}, {p, typ(t, "$X"), api.ErrType}, {p, typ(t, "(D ref | C ref)"), api.ErrType},
		{p, typ(t, "X ref"), api.ErrNone}, {p, typ(t, "C[C ref] ref"), api.ErrSize}, {p, typ(t, "L ref"), api.ErrSize}, {many[1:], right, api.OK}, {nil, right, api.ErrNone},
	} {
		l, e := Supers(x.p, x.t)
		m, f := Methods(x.p, x.t)
		if e != x.want || f != x.want || e != api.OK && len(l)+len(m) > 0 {
			t.Errorf("%d: Supers: error %d, Methods: error %d, want %d", i, e, f, x.want)
		}
		_, e = Lookup(x.p, x.t, "m")
		if want := map[api.Errno]api.Errno{api.ErrForm: api.ErrForm, api.ErrSize: api.ErrSize}[x.want]; len(x.p) > api.MaxUnits && e != want || len(x.p) <= api.MaxUnits && e != api.ErrNone {
			t.Errorf("%d: Lookup: error %d", i, e)
		}
	}
	for i, x := range []struct {
		p    []api.Entity
		a, b api.Type
		want api.Errno
	}{{many, wrong, right, api.ErrForm}, {many, right, wrong, api.ErrForm}, {many, right, right, api.ErrSize}, {many[1:], right, right, api.OK}, {nil, right, right, api.OK}, {p, right, typ(t, "D ref"), api.ErrNone}} {
		if _, e := Derive(x.p, x.a, x.b); e != x.want || Is(x.p, x.a, x.b) != (e == api.OK) || Bare(x.p, x.a, x.b) != (e == api.OK) || Same(x.p, x.a, x.b) != (e == api.OK) {
			t.Errorf("%d: Derive: error %d, want %d", i, e, x.want)
		}
	}
	if i, e := Find(p, "None"); e != api.OK || p[i].Name != "None" {
		t.Errorf("Find: %d, error %d", i, e)
	}
	if i, e := Find(many, "C"); i != 0 || e != api.OK {
		t.Errorf("Find of one of many: %d, error %d", i, e)
	}
	if i, e := Find(p, ""); i != 0 || e != api.ErrNone {
		t.Errorf("Find of none: %d, error %d", i, e)
	}
	m := api.Method{Kind: api.Fun, Name: "m", Cap: api.Box}
	if Method(many, m, m) || !Method(many[1:], m, m) {
		t.Error("Method for too many entities")
	}
}

// TestSteps: each question counts, and more than MaxSteps are no.
func TestSteps(t *testing.T) {
	p := program(t, first)
	x := typ(t, "C ref")
	for range 9 {
		x = types.Named("L", api.Ref, []api.Type{x})
	}
	if _, e := Derive(p, x, x); e != api.OK || !Is(p, x, x) {
		t.Errorf("1023 questions: error %d", e)
	}
	y := types.Named("L", api.Ref, []api.Type{x})
	if _, e := Derive(p, y, y); e != api.ErrSteps || Is(p, y, y) || Bare(p, y, y) {
		t.Errorf("2047 questions: error %d", e)
	}
	// a tuple of 2 x 976 + 47 + 1 questions, and of one more
	for more, want := range map[int]api.Errno{0: api.OK, 1: api.ErrSteps} {
		tuple := api.Type{Kind: api.TypeTuple, Args: []api.Type{x}}
		for left := 2000 - 1 - 1023 + more; left > 0; {
			n, z := 1, typ(t, "C ref")
			for 2*n+1 <= left {
				n, z = 2*n+1, types.Named("L", api.Ref, []api.Type{z})
			}
			tuple.Args = append(tuple.Args, z)
			left -= n
		}
		if _, e := Derive(p, tuple, tuple); e != want {
			t.Errorf("%d questions: error %d, want %d", 2000+more, e, want)
		}
	}
	if _, e := Derive(p, y, types.Named("Any", api.Box, nil)); e != api.OK {
		t.Errorf("no questions of arguments: error %d", e)
	}
	union := api.Type{Kind: api.TypeUnion, Args: []api.Type{y, types.Named("Empty", api.Box, nil)}}
	if _, e := Derive(p, y, union); e != api.ErrSteps {
		t.Errorf("a question that is known without others, behind too many: error %d", e)
	}
}

// TestMethodRule: methods that may stand in the place of others.
func TestMethodRule(t *testing.T) {
	p := program(t, first)
	none := api.Type{}
	fun := func(c int, result api.Type, params ...string) api.Method {
		m := api.Method{Kind: api.Fun, Name: "m", Cap: c, Result: result}
		for i, s := range params {
			m.Params = append(m.Params, api.Param{Name: strconv.Itoa(i), Type: typ(t, s)})
		}
		return m
	}
	with := func(m api.Method, change func(m *api.Method)) api.Method {
		change(&m)
		return m
	}
	partial := func(m *api.Method) { m.Partial = true }
	kind := func(k int) func(m *api.Method) { return func(m *api.Method) { m.Kind = k } }
	bound := func(name, s string) func(m *api.Method) {
		return func(m *api.Method) { m.Bounds = []api.Bound{{Name: name, Type: typ(t, s)}} }
	}
	for i, x := range []struct {
		a, b api.Method
		want bool
	}{
		{fun(api.Box, typ(t, "C ref"), "T box"), fun(api.Ref, typ(t, "T box"), "C ref"), true},
		{fun(api.Ref, none), fun(api.Box, none), false}, {fun(api.Box, none), fun(api.Iso, none), false}, {fun(api.Tag, none), fun(api.Iso, none), true},
		{fun(api.Box, none), fun(api.Box, typ(t, "None val")), false}, {fun(api.Box, typ(t, "None val")), fun(api.Box, none), false},
		{fun(api.Box, none, "C box"), fun(api.Box, none, "T box"), false}, {fun(api.Box, none, "C box"), fun(api.Box, none), false},
		{fun(api.Box, typ(t, "T box")), fun(api.Box, typ(t, "C box")), false},
		{with(fun(api.Box, none), partial), fun(api.Box, none), false}, {fun(api.Box, none), with(fun(api.Box, none), partial), true},
		{with(fun(api.Box, none), partial), with(fun(api.Box, none), partial), true},
		{with(fun(api.Box, none), kind(api.Be)), fun(api.Box, none), false}, {with(fun(api.Iso, none), kind(api.Be)), with(fun(api.Ref, none), kind(api.Be)), true},
		{with(fun(api.Ref, none), kind(api.New)), with(fun(api.Box, none), kind(api.New)), true}, {with(fun(api.Box, none), kind(api.New)), with(fun(api.Ref, none), kind(api.New)), false},
		{with(fun(api.Iso, none), kind(api.New)), with(fun(api.Val, none), kind(api.New)), true},
		{with(fun(api.Box, none), func(m *api.Method) { m.Name = "n" }), fun(api.Box, none), false},
		{fun(api.Ref, typ(t, "(this -> C ref)")), fun(api.Ref, typ(t, "C ref")), true}, {fun(api.Box, typ(t, "(this -> C ref)")), fun(api.Ref, typ(t, "(this -> C ref)")), false},
		{fun(api.Box, typ(t, "(this -> C ref)")), fun(api.Ref, typ(t, "C box")), true}, {fun(api.Tag, typ(t, "(this -> C ref)")), fun(api.Tag, typ(t, "(this -> C ref)")), false},
		{with(fun(api.Ref, none, "this"), kind(api.Be)), with(fun(api.Val, none, "this tag"), kind(api.Be)), true},
		{with(fun(api.Box, typ(t, "$A"), "$A"), bound("A", "T box")), with(fun(api.Box, typ(t, "$B"), "$B"), bound("B", "T box")), true},
		{with(fun(api.Box, typ(t, "$A"), "$A"), bound("A", "T box")), with(fun(api.Box, typ(t, "$B"), "$B"), bound("B", "T ref")), false},
		{with(fun(api.Box, typ(t, "$A"), "$A"), bound("A", "L[$A] box")), with(fun(api.Box, typ(t, "$B"), "$B"), bound("B", "L[$B] box")), true},
		{with(fun(api.Box, typ(t, "$A"), "$B"), bound("A", "T box")), with(fun(api.Box, typ(t, "$B"), "$B"), bound("B", "T box")), false},
		{with(fun(api.Box, none), bound("A", "T box")), fun(api.Box, none), false},
		{with(fun(api.Box, none), func(m *api.Method) { m.Bounds = []api.Bound{{Name: "A", Type: types.Named("Any", api.CapAny, nil)}} }), with(fun(api.Box, none), func(m *api.Method) { m.Bounds = []api.Bound{{Name: "A", Type: types.Named("Any", api.CapAny, nil)}} }), false},
		{fun(api.Box, none, "C ref"), with(fun(api.Box, none, "C ref"), func(m *api.Method) { m.Params[0].Type = none }), false},
		{with(fun(0, none), kind(7)), with(fun(0, none), kind(7)), true},
	} {
		if got := Method(p, x.a, x.b); got != x.want {
			t.Errorf("%d: Method: %v", i, got)
		}
	}
}

// TestCheck: the errors of derivations, one change each.
func TestCheck(t *testing.T) {
	p := program(t, first)
	derive := func(a, b string) Proof {
		t.Helper()
		d, e := Derive(p, typ(t, a), typ(t, b))
		if e != api.OK {
			t.Fatalf("%s, %s: error %d", a, b, e)
		}
		return d
	}
	wrong := api.Type{Kind: 9}
	for i, x := range []struct {
		a, b   string
		change func(d *Proof)
		want   api.Errno
	}{
		{"C ref", "T box", func(d *Proof) { d.A, d.Rule = wrong, 0 }, api.ErrForm}, {"C ref", "T box", func(d *Proof) { d.B = wrong; d.N = -1 }, api.ErrForm},
		{"C ref", "T box", func(d *Proof) { d.Rule = 0 }, api.ErrArg}, {"C ref", "T box", func(d *Proof) { d.Rule = 10 }, api.ErrArg}, {"C ref", "T box", func(d *Proof) { d.N = -1 }, api.ErrArg},
		{"C ref", "I box", func(d *Proof) { d.N = 1 }, api.ErrArg}, {"C ref", "T box", func(d *Proof) { d.N = 0 }, api.ErrForm}, {"C ref", "T box", func(d *Proof) { d.N = 2 }, api.ErrForm},
		{"C ref", "T box", func(d *Proof) { d.A = typ(t, "$X") }, api.ErrForm}, {"C ref", "T box", func(d *Proof) { d.A.Cap = api.Tag }, api.ErrCap}, {"C ref", "T box", func(d *Proof) { d.A.Cap, d.N = api.Tag, 0 }, api.ErrForm},
		{"C ref", "T box", func(d *Proof) { d.Kids = []Proof{{}} }, api.ErrForm}, {"L[C ref] ref", "L[C ref] ref", func(d *Proof) { d.B.Args = nil }, api.ErrForm},
		{"L[C ref] ref", "L[C ref] ref", func(d *Proof) { d.Kids = d.Kids[:1] }, api.ErrForm}, {"L[C ref^] ref", "L[C ref] ref", func(d *Proof) { d.Kids[1], d.Kids[0] = d.Kids[0], d.Kids[1] }, api.ErrForm},
		{"C ref", "I box", func(d *Proof) { d.B = typ(t, "T box") }, api.ErrForm}, {"C ref", "I box", func(d *Proof) { d.A = typ(t, "T box") }, api.ErrForm}, {"C ref", "I box", func(d *Proof) { d.A.Cap = api.Tag }, api.ErrCap},
		{"C ref", "I box", func(d *Proof) { d.A = typ(t, "D ref") }, api.ErrCap}, {"C ref", "I box", func(d *Proof) { d.Kids = nil }, api.ErrForm}, {"C ref", "I box", func(d *Proof) { d.Kids[0].N = 1 }, api.ErrForm},
		{"S ref", "R box", func(d *Proof) { d.Kids[1].Kids[1].B.Cap = api.Ref }, api.ErrForm}, {"S ref", "R box", func(d *Proof) { *d = d.Kids[1].Kids[1] }, api.ErrScope},
		{"S ref", "R box", func(d *Proof) { *d = d.Kids[1].Kids[1]; d.A.Cap = api.Tag }, api.ErrCap}, {"S ref", "R box", func(d *Proof) { *d = d.Kids[1].Kids[1]; d.B.Name = "T" }, api.ErrForm},
		{"S ref", "R box", func(d *Proof) { *d = d.Kids[1].Kids[1]; d.Kids = []Proof{{}} }, api.ErrForm}, {"S ref", "R box", func(d *Proof) { d.Kids[1].Kids[1].N = 3 }, api.ErrArg},
		{"S box", "R box", func(d *Proof) { d.Kids[1].Rule, d.Kids[1].Kids = Assumed, nil }, api.OK}, {"S ref", "R box", func(d *Proof) { d.Kids[1].Rule, d.Kids[1].Kids = Assumed, nil }, api.ErrScope},
		{"(C ref | E ref)", "I box", func(d *Proof) { d.A = typ(t, "C ref") }, api.ErrForm}, {"(C ref | E ref)", "I box", func(d *Proof) { d.Kids = append(d.Kids, d.Kids[0]) }, api.ErrForm},
		{"C ref", "(I box & T box)", func(d *Proof) { d.B = typ(t, "I box") }, api.ErrForm}, {"C ref", "(T val | I box)", func(d *Proof) { d.N = 0 }, api.ErrForm}, {"C ref", "(T val | I box)", func(d *Proof) { d.N = 2 }, api.ErrForm},
		{"C ref", "(T val | I box)", func(d *Proof) { d.B = typ(t, "I box") }, api.ErrForm}, {"(C ref & T ref)", "T ref", func(d *Proof) { d.N = 2 }, api.ErrForm}, {"(C ref & T ref)", "T ref", func(d *Proof) { d.A = typ(t, "C ref") }, api.ErrForm},
		{"(C ref, C ref)", "(T ref, T ref)", func(d *Proof) { d.B = typ(t, "(T ref, T ref, T ref)") }, api.ErrForm}, {"(C ref, C ref)", "(T ref, T ref)", func(d *Proof) { d.Kids = d.Kids[1:] }, api.ErrForm},
		{"$X iso^", "$X iso", func(d *Proof) { d.A.Name = "Y" }, api.ErrForm}, {"$X iso^", "$X iso", func(d *Proof) { d.A.Mark = api.Aliased }, api.ErrCap}, {"$X", "$X", func(d *Proof) { d.A.Mark = api.Aliased }, api.ErrCap},
		{"$X", "$X", func(d *Proof) { d.A = typ(t, "this") }, api.ErrForm}, {"this ref", "this ref", func(d *Proof) { d.A.Cap = 0 }, api.ErrCap}, {"(this -> $X)", "(this -> $X)", func(d *Proof) { d.A.Args[1].Name = "Y" }, api.ErrForm},
		{"C ref", "T ref", func(d *Proof) { d.A = typ(t, "(C ref | C ref)") }, api.ErrForm},
	} {
		d := derive(x.a, x.b)
		x.change(&d)
		if e := Check(p, d); e != x.want {
			t.Errorf("%d: %s, %s: error %d, want %d", i, x.a, x.b, e, x.want)
		}
	}
	other := derive("C ref", "(T box | I box)")
	other.N, other.Kids[0] = 1, derive("C ref", "I box")
	if e := Check(p, other); e != api.OK {
		t.Errorf("another way: error %d", e)
	}
	if e := Check(make([]api.Entity, api.MaxUnits+1), Proof{}); e != api.ErrSize {
		t.Errorf("too many entities: error %d", e)
	}
	tall := derive("C ref", "T ref")
	for range 199 {
		tall = Proof{Rule: UnionAll, A: typ(t, "(C ref | C ref)"), B: typ(t, "T ref"), Kids: []Proof{tall}}
	}
	if e := Check(p, tall); e != api.ErrForm {
		t.Errorf("200 levels: error %d", e)
	}
	if e := Check(p, Proof{Kids: []Proof{tall}}); e != api.ErrSize {
		t.Errorf("201 levels: error %d", e)
	}
	if e := Check(p, Proof{Kids: make([]Proof, 4000)}); e != api.ErrSize {
		t.Errorf("4001 derivations: error %d", e)
	}
	if e := Check(p, Proof{Kids: make([]Proof, 3999)}); e != api.ErrForm {
		t.Errorf("4000 derivations: error %d", e)
	}
}

var kinds = map[string]int{"C": 0, "D": 0, "E": 0, "T": 0, "U": 0, "I": 0, "J": 0, "R": 0, "S": 0, "P": 0, "Empty": 0, "None": 0, "L": 1, "W": 1, "Q": 1}

// TestOrder: P9.2 to P9.5 for types by chance.
func TestOrder(t *testing.T) {
	p := program(t, first)
	plain := map[string]int{"C": 0, "D": 0, "T": 0, "U": 0, "P": 0, "L": 1, "W": 1, "Q": 1, "V": 1}
	yes, chains := 0, 0
	for seed := range uint64(20000) {
		m := samples.New(seed)
		a, b := m.CoreType(1+m.Below(3), kinds, "X"), m.CoreType(1+m.Below(3), kinds, "X")
		if m.Below(4) == 0 {
			b = api.Type{Kind: api.TypeUnion, Args: []api.Type{b, a}}
		}
		d, e := Derive(p, a, b)
		if !Is(p, a, a) {
			t.Fatalf("Is is not reflexive: %v", a)
		}
		if e == api.OK {
			yes++
			if e := Check(p, d); e != api.OK || !Bare(p, a, b) {
				t.Fatalf("%v, %v: Check: error %d, Bare %v", a, b, e, Bare(p, a, b))
			}
		}
		for _, x := range []api.Type{a, b} {
			whole := x.Kind == api.TypeUnion || x.Kind == api.TypeBoth
			all := !slices.ContainsFunc(x.Args, func(y api.Type) bool {
				return x.Kind == api.TypeUnion && !Is(p, y, b) || x.Kind == api.TypeBoth && !Is(p, a, y)
			})
			if whole && (x.Kind == api.TypeUnion && Is(p, x, b) != all || x.Kind == api.TypeBoth && Is(p, a, x) != all) {
				t.Fatalf("%v, %v: not as P9.5 says for %v", a, b, x)
			}
			for _, y := range x.Args {
				if x.Kind == api.TypeUnion && !Is(p, y, x) || x.Kind == api.TypeBoth && !Is(p, x, y) {
					t.Fatalf("an Arg of %v is not as P9.5 says", x)
				}
			}
		}
		x, y, z := noArrows(m.CoreType(3, plain)), noArrows(m.CoreType(2, plain)), noArrows(m.CoreType(2, plain))
		y, z = api.Type{Kind: api.TypeUnion, Args: []api.Type{supers(p, m, x), y}}, api.Type{Kind: api.TypeUnion, Args: []api.Type{z, supers(p, m, x), supers(p, m, y)}}
		if Is(p, x, y) && Is(p, y, z) {
			chains++
			if !Is(p, x, z) {
				t.Fatalf("Is is not transitive: %v, %v, %v", x, y, z)
			}
		}
	}
	if yes < 1000 || chains < 500 {
		t.Errorf("only %d answers were yes, and %d chains", yes, chains)
	}
}

// noArrows returns a type without intersections and arrows.
func noArrows(t api.Type) api.Type {
	switch t.Kind {
	case api.TypeArrow:
		return noArrows(t.Args[1])
	case api.TypeBoth:
		t.Kind = api.TypeUnion
	case api.TypeSelf:
		return types.Named("P", api.Val, nil)
	}
	l := t.Args
	t.Args = nil
	for _, a := range l {
		t.Args = append(t.Args, noArrows(a))
	}
	return t
}

// supers returns a supertype of a name, or the type itself, with another capability that fits.
func supers(p []api.Entity, m *samples.Maker, t api.Type) api.Type {
	if l, e := Supers(p, t); e == api.OK {
		t = l[m.Below(len(l))]
		if m.Below(2) == 0 {
			t.Cap, t.Mark = api.Tag, api.Plain
		}
	}
	return t
}

// TestInterfaces: P9.6: a class is a subtype of an interface just if all methods fit, and more methods ask for more.
func TestInterfaces(t *testing.T) {
	p := program(t, first)
	for seed := range uint64(3000) {
		m := samples.New(seed)
		method := func() api.Method {
			x := api.Method{Kind: api.Fun, Name: m.One("f", "g"), Cap: 1 + m.Below(6), Result: m.CoreType(1, kinds), Partial: m.Below(3) == 0}
			for range m.Below(2) {
				x.Params = append(x.Params, api.Param{Name: "x", Type: m.CoreType(1, kinds)})
			}
			return x
		}
		class := api.Entity{Kind: api.Class, Name: "New", Cap: api.Ref, Methods: []api.Method{method(), method()}}
		face := api.Entity{Kind: api.Interface, Name: "Face", Cap: api.Ref, Methods: []api.Method{method()}}
		if m.Below(2) == 0 {
			face.Methods = []api.Method{class.Methods[m.Below(2)]}
			face.Methods[0].Cap = 1 + m.Below(6)
		}
		l := append(slices.Clone(p), class, face)
		a, b := types.Named("New", api.Ref, nil), types.Named("Face", api.Box, nil)
		fits := true
		for _, n := range face.Methods {
			own, e := Lookup(l, a, n.Name)
			fits = fits && e == api.OK && Method(l, own, n)
		}
		if Is(l, a, b) != fits {
			t.Fatalf("%v as %v: %v", class, face, !fits)
		}
		face.Methods = append(slices.Clone(face.Methods), method())
		if l[len(l)-1] = face; !fits && Is(l, a, b) {
			t.Fatalf("%v as %v: more methods ask for less", class, face)
		}
	}
}

// TestFirstCounts: of several entities with one name the first one counts, and nothing that is handed in changes.
func TestFirstCounts(t *testing.T) {
	l := []api.Entity{{Kind: api.Class, Name: "C"}, {Kind: api.Class, Name: "C", Provides: []api.Type{types.Named("T", api.Ref, nil)}}, {Kind: api.Trait, Name: "T"}}
	if Is(l, typ(t, "C ref"), typ(t, "T ref")) {
		t.Error("the second entity counts")
	}
	p := program(t, first)
	d, _ := Derive(p, typ(t, "Q[C ref] ref"), typ(t, "W[L[C ref] ref] box"))
	d.Kids[0].A.Args[0].Name = "X"
	d.A.Args[0].Name = "Y"
	if again, _ := Derive(p, typ(t, "Q[C ref] ref"), typ(t, "W[L[C ref] ref] box")); d.Kids[1].B.Args[0].Name != "C" || again.A.Args[0].Name != "C" || !reflect.DeepEqual(p, program(t, first)) {
		t.Error("derivations share their memory")
	}
}
