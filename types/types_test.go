package types_test

import (
	"reflect"
	"slices"
	"strings"
	"testing"

	"hackamore/api"
	"hackamore/cap"
	"hackamore/samples"
	. "hackamore/types"
)

// entities are the names that made types have, with the number of their arguments.
var entities = map[string]int{"main.Cell": 0, "None": 0, "U32": 0, "List": 1, "Map": 2, "a b\n\"\\": 0, "this": 0, "é": 0}

func made(m *samples.Maker) api.Type { return m.CoreType(1+m.Below(4), entities, "A", "B", "C'") }

// typ returns the type with a text.
func typ(t *testing.T, s string) api.Type {
	t.Helper()
	r, e := Parse(s)
	if e != api.OK {
		t.Fatalf("Parse of %s: error %d", s, e)
	}
	return r
}

// shown returns the text of a result, or its error.
func shown(t *testing.T, r api.Type, e api.Errno) string {
	t.Helper()
	if e != api.OK {
		if !Equal(r, api.Type{}) {
			t.Errorf("a result with the error %d", e)
		}
		return "error " + e.Error()
	}
	s, e := Text(r)
	if e != api.OK {
		t.Errorf("a result that is not well-formed: error %d", e)
	}
	return s
}

func name(s string, args ...api.Type) api.Type { return Named(s, api.Ref, args) }

// deep returns a type of so many levels.
func deep(levels int) api.Type {
	t := name("A")
	for range levels - 1 {
		t = name("L", t)
	}
	return t
}

// wide returns a type of so many nodes.
func wide(nodes int) api.Type {
	if nodes <= 65 {
		return name("W", slices.Repeat([]api.Type{name("A")}, nodes-1)...)
	}
	t := name("W")
	for left := nodes - 1; left > 0; left -= 50 {
		t.Args = append(t.Args, wide(min(left, 50)))
	}
	return t
}

// wrong are types that are not well-formed, with their errors.
func wrong() map[string]struct {
	t    api.Type
	want api.Errno
} {
	type w = struct {
		t    api.Type
		want api.Errno
	}
	a := name("A")
	self := api.Type{Kind: api.TypeSelf}
	two := []api.Type{a, a}
	return map[string]w{
		"zero":                  {api.Type{}, api.ErrForm},
		"kind 0, a name":        {api.Type{Name: "A"}, api.ErrForm},
		"kind 0, a mark":        {api.Type{Mark: api.Ephemeral}, api.ErrForm},
		"kind 0, args":          {api.Type{Args: two}, api.ErrForm},
		"kind 8":                {api.Type{Kind: 8, Name: "A", Cap: api.Ref}, api.ErrForm},
		"kind -1":               {api.Type{Kind: -1}, api.ErrForm},
		"no name":               {name(""), api.ErrForm},
		"long name":             {name(strings.Repeat("x", 301)), api.ErrForm},
		"no UTF-8":              {name("\xff"), api.ErrForm},
		"no cap":                {Named("A", 0, nil), api.ErrForm},
		"a set":                 {Named("A", api.CapRead, nil), api.ErrForm},
		"cap -1":                {Named("A", -1, nil), api.ErrForm},
		"mark 3":                {api.Type{Kind: api.TypeName, Name: "A", Cap: api.Ref, Mark: 3}, api.ErrForm},
		"mark -1":               {api.Type{Kind: api.TypeName, Name: "A", Cap: api.Ref, Mark: -1}, api.ErrForm},
		"65 args":               {name("A", slices.Repeat([]api.Type{a}, 65)...), api.ErrForm},
		"long param":            {api.Type{Kind: api.TypeParam, Name: strings.Repeat("x", 61)}, api.ErrForm},
		"no param":              {api.Type{Kind: api.TypeParam}, api.ErrForm},
		"param of args":         {api.Type{Kind: api.TypeParam, Name: "A", Args: two}, api.ErrForm},
		"param of a set":        {api.Type{Kind: api.TypeParam, Name: "A", Cap: api.CapAny}, api.ErrForm},
		"union of one":          {api.Type{Kind: api.TypeUnion, Args: two[:1]}, api.ErrForm},
		"union with a name":     {api.Type{Kind: api.TypeUnion, Name: "A", Args: two}, api.ErrForm},
		"union with a cap":      {api.Type{Kind: api.TypeUnion, Cap: api.Ref, Args: two}, api.ErrForm},
		"both with a mark":      {api.Type{Kind: api.TypeBoth, Mark: 1, Args: two}, api.ErrForm},
		"tuple of 65":           {api.Type{Kind: api.TypeTuple, Args: slices.Repeat([]api.Type{a}, 65)}, api.ErrForm},
		"arrow of one":          {api.Type{Kind: api.TypeArrow, Args: []api.Type{self}}, api.ErrForm},
		"arrow of three":        {api.Type{Kind: api.TypeArrow, Args: []api.Type{self, a, a}}, api.ErrForm},
		"arrow of a name":       {api.Type{Kind: api.TypeArrow, Args: two}, api.ErrForm},
		"arrow with a cap":      {api.Type{Kind: api.TypeArrow, Cap: 3, Args: []api.Type{self, a}}, api.ErrForm},
		"self with a name":      {api.Type{Kind: api.TypeSelf, Name: "this"}, api.ErrForm},
		"self with args":        {api.Type{Kind: api.TypeSelf, Args: two}, api.ErrForm},
		"self of a set":         {api.Type{Kind: api.TypeSelf, Cap: 7}, api.ErrForm},
		"inside":                {name("L", name("L", api.Type{})), api.ErrForm},
		"301 nodes":             {wide(301), api.ErrSize},
		"21 levels":             {deep(21), api.ErrSize},
		"21 levels, and a form": {name("", deep(21)), api.ErrSize},
	}
}

// TestCheck: which types are well-formed.
func TestCheck(t *testing.T) {
	for what, w := range wrong() {
		if got := Check(w.t); got != w.want {
			t.Errorf("%s: error %d, want %d", what, got, w.want)
		}
	}
	for _, right := range []api.Type{wide(300), deep(20), name(strings.Repeat("x", 300)), name("A", slices.Repeat([]api.Type{name("A")}, 64)...), {Kind: api.TypeParam, Name: strings.Repeat("x", 60)}} {
		if got := Check(right); got != api.OK {
			t.Errorf("a type of %d bytes in its name: error %d", len(right.Name), got)
		}
	}
	for n := 290; n < 305; n++ {
		if nodes, _ := Size(wide(n)); nodes != n {
			t.Fatalf("wide of %d has %d nodes", n, nodes)
		}
	}
}

// TestWrong: all functions for types that are not well-formed.
func TestWrong(t *testing.T) {
	right := name("A")
	for what, w := range wrong() {
		errs := map[string]func() (api.Type, api.Errno){
			"Normal":      func() (api.Type, api.Errno) { return Normal(w.t) },
			"Union":       func() (api.Type, api.Errno) { return Union([]api.Type{right, w.t, {}}) },
			"Subst":       func() (api.Type, api.Errno) { return Subst(w.t, []string{"A"}, []api.Type{{}}) },
			"Subst by it": func() (api.Type, api.Errno) { return Subst(right, []string{"A", "B"}, []api.Type{right, w.t}) },
			"Self":        func() (api.Type, api.Errno) { return Self(w.t, 0, 7) },
			"With":        func() (api.Type, api.Errno) { return With(w.t, 0) },
			"Aliased":     func() (api.Type, api.Errno) { return Aliased(w.t) },
			"Consumed":    func() (api.Type, api.Errno) { return Consumed(w.t) },
			"Seen":        func() (api.Type, api.Errno) { return Seen(0, w.t) },
			"Extracted":   func() (api.Type, api.Errno) { return Extracted(0, w.t) },
			"Recovered":   func() (api.Type, api.Errno) { return Recovered(w.t, 9) },
			"Text":        func() (api.Type, api.Errno) { s, e := Text(w.t); return api.Type{Name: s}, e },
			"Method": func() (api.Type, api.Errno) {
				m, e := Method(api.Method{Name: "m", Params: []api.Param{{Name: "x", Type: w.t}}}, nil, nil)
				return api.Type{Name: m.Name}, e
			},
			"Method's args": func() (api.Type, api.Errno) {
				m, e := Method(api.Method{}, []string{"A"}, []api.Type{w.t})
				return m.Result, e
			},
		}
		for f, call := range errs {
			if f == "Method" && w.t.Kind == 0 {
				continue // it stays as it is there
			}
			if r, e := call(); e != w.want || !reflect.DeepEqual(r, api.Type{}) {
				t.Errorf("%s of %s: error %d, want %d", f, what, e, w.want)
			}
		}
		if Reified(w.t) || Storable(api.Ref, w.t) || Sendable(w.t) || len(Params(w.t)) > 0 {
			t.Errorf("%s: something is said of it", what)
		}
	}
}

// TestTexts: texts of types, which Parse reads.
func TestTexts(t *testing.T) {
	a := name("A")
	param := func(name string, c, mark int) api.Type {
		return api.Type{Kind: api.TypeParam, Name: name, Cap: c, Mark: mark}
	}
	of := func(kind int, args ...api.Type) api.Type { return api.Type{Kind: kind, Args: args} }
	for want, x := range map[string]api.Type{
		"main.Cell[U32 val] ref":       name("main.Cell", Named("U32", api.Val, nil)),
		"A iso^":                       {Kind: api.TypeName, Name: "A", Cap: api.Iso, Mark: api.Ephemeral},
		"A[A ref, A ref] tag!":         {Kind: api.TypeName, Name: "A", Cap: api.Tag, Mark: api.Aliased, Args: []api.Type{a, a}},
		"$A":                           param("A", 0, 0),
		"$A^":                          param("A", 0, api.Ephemeral),
		"$A box!":                      param("A", api.Box, api.Aliased),
		"$\"this\" ref":                param("this", api.Ref, 0),
		"\"this\" ref":                 name("this"),
		"thisx ref":                    name("thisx"),
		"this":                         of(api.TypeSelf),
		"this trn^":                    {Kind: api.TypeSelf, Cap: api.Trn, Mark: api.Ephemeral},
		"this!":                        {Kind: api.TypeSelf, Mark: api.Aliased},
		"(A ref | A ref)":              of(api.TypeUnion, a, a),
		"(A ref & A ref & $B)":         of(api.TypeBoth, a, a, param("B", 0, 0)),
		"(A ref, (A ref | this))":      of(api.TypeTuple, a, of(api.TypeUnion, a, of(api.TypeSelf))),
		"(this -> ($A^ -> A ref))":     of(api.TypeArrow, of(api.TypeSelf), of(api.TypeArrow, param("A", 0, 1), a)),
		"\"a b\" ref":                  name("a b"),
		"\"1a\" ref":                   name("1a"),
		"\"'a\" ref":                   name("'a"),
		"\".a\" ref":                   name(".a"),
		"a'.1 ref":                     name("a'.1"),
		"_ ref":                        name("_"),
		"\"é\" ref":                    name("é"),
		"\"\\\"\\\\\\n\\\\n\" ref":     name("\"\\\n\\n"),
		"\"L[A ref]\"[\"\t\" ref] ref": name("L[A ref]", name("\t")),
		"$\"a-b\"^":                    param("a-b", 0, 1),
		"iso iso":                      Named("iso", api.Iso, nil),
	} {
		if s := shown(t, x, api.OK); s != want {
			t.Errorf("Text: %s, want %s", s, want)
		}
		if got, e := Parse(want); e != api.OK || !Equal(got, x) {
			t.Errorf("Parse of %s: %v, error %d", want, got, e)
		}
	}
}

// TestNoTexts: texts that are those of no types, and of types with errors.
func TestNoTexts(t *testing.T) {
	long := func(n int) string { return strings.Repeat("x", n-4) + " ref" }
	brackets := func(n int) string { return strings.Repeat("A[", n) + "A ref" + strings.Repeat("] ref", n) }
	tuple := func(n int) string { return "(" + strings.Repeat("A ref, ", n-1) + "A ref)" }
	for s, want := range map[string]api.Errno{
		"": api.ErrForm, "A": api.ErrForm, "A  ref": api.ErrForm, " A ref": api.ErrForm, "A ref ": api.ErrForm, "A ref\n": api.ErrForm,
		"A Ref": api.ErrForm, "A refx": api.ErrForm, "A #read": api.ErrForm, "A ref^!": api.ErrForm, "A ^": api.ErrForm, "1 ref": api.ErrForm,
		"'a ref": api.ErrForm, ".a ref": api.ErrForm, "\"A\" ref": api.ErrForm, "$\"A\"": api.ErrForm, "$this": api.ErrForm, "$": api.ErrForm,
		"$$A": api.ErrForm, "this ref ref": api.ErrForm, "this[A ref]": api.ErrForm, "\"this\"": api.ErrForm, "A[] ref": api.ErrForm, "A[A ref": api.ErrForm,
		"A[A ref,A ref] ref": api.ErrForm, "A[A ref | A ref] ref": api.ErrForm, "()": api.ErrForm, "(A ref)": api.ErrForm, "(A ref | A ref": api.ErrForm,
		"(A ref | A ref & A ref)": api.ErrForm, "(A ref|A ref)": api.ErrForm, "(A ref | A ref) ref": api.ErrForm, "(A ref -> A ref)": api.ErrForm,
		"(this -> A ref -> A ref)": api.ErrForm, "\"a\nb\" ref": api.ErrForm, "\"a\\tb\" ref": api.ErrForm, "\"a b ref": api.ErrForm, "\"a b\\": api.ErrForm,
		"\"\" ref": api.ErrForm, "\"\xff\" ref": api.ErrForm, "é ref": api.ErrForm, "a-b ref": api.ErrForm, "A ref]": api.ErrForm, "A ref)": api.ErrForm,
		"$A #any": api.ErrForm, "$" + strings.Repeat("x", 61): api.ErrForm, long(305): api.ErrForm, long(20000): api.ErrForm, long(20001): api.ErrSize,
		long(304): api.OK, "$" + strings.Repeat("x", 60): api.OK, brackets(19): api.OK, brackets(20): api.ErrSize, brackets(199): api.ErrSize,
		brackets(200): api.ErrForm, brackets(2000): api.ErrForm, strings.Repeat("(", 20000): api.ErrForm, tuple(64): api.OK, tuple(65): api.ErrForm,
		tuple(299): api.ErrForm, tuple(300): api.ErrSize, tuple(2000): api.ErrSize,
	} {
		r, e := Parse(s)
		if e != want || e != api.OK && !reflect.DeepEqual(r, api.Type{}) {
			t.Errorf("Parse of %.60q (%d bytes): error %d, want %d", s, len(s), e, want)
		}
	}
}

// TestTextsOfAll: P8.2 for types by chance.
func TestTextsOfAll(t *testing.T) {
	seen := map[string]api.Type{}
	for seed := range uint64(5000) {
		x := made(samples.New(seed))
		s := shown(t, x, api.OK)
		if strings.Contains(s, "\n") {
			t.Errorf("%q has a line feed", s)
		}
		if got, e := Parse(s); e != api.OK || !Equal(got, x) {
			t.Errorf("Parse of %s: %v, error %d", s, got, e)
		}
		if other, ok := seen[s]; ok && !Equal(other, x) {
			t.Errorf("two types have the text %s", s)
		}
		seen[s] = x
		m := samples.New(seed)
		at := m.Below(len(s))
		broken := s[:at] + m.One("", " ", "(", ")", "[", "ref", "!", "\"", "this", "$", "\\n") + s[at+m.Below(2):]
		got, e := Parse(broken)
		if back, f := Text(got); e == api.OK && (f != api.OK || back != broken) {
			t.Errorf("Parse of %q is a type with the text %q", broken, back)
		}
	}
}

// TestSizes: Size and Equal.
func TestSizes(t *testing.T) {
	for s, want := range map[string][2]int{"A ref": {1, 1}, "L[A ref] ref": {2, 2}, "(A ref | L[A ref] ref)": {4, 3}, "(this -> $A)": {3, 2}} {
		if n, d := Size(typ(t, s)); n != want[0] || d != want[1] {
			t.Errorf("Size of %s: %d, %d", s, n, d)
		}
	}
	if n, d := Size(api.Type{}); n != 1 || d != 1 {
		t.Errorf("Size of the zero Type: %d, %d", n, d)
	}
	a := typ(t, "L[A ref] ref")
	for i, change := range []func(x *api.Type){func(x *api.Type) { x.Kind++ }, func(x *api.Type) { x.Name += "x" }, func(x *api.Type) { x.Cap++ }, func(x *api.Type) { x.Mark++ }, func(x *api.Type) { x.Args = nil }, func(x *api.Type) { x.Args = []api.Type{name("B")} }} {
		b := a
		change(&b)
		if Equal(a, b) || Equal(b, a) {
			t.Errorf("%d: equal to a changed type", i)
		}
	}
	if !Equal(a, typ(t, "L[A ref] ref")) || !Equal(api.Type{}, api.Type{Args: []api.Type{}}) {
		t.Error("equal types are not Equal")
	}
}

// TestNamed: any fields, with memory of their own.
func TestNamed(t *testing.T) {
	l := []api.Type{name("A"), {}}
	n := Named("", 99, l)
	l[0].Name = "B"
	if n.Kind != api.TypeName || n.Name != "" || n.Cap != 99 || n.Mark != 0 || len(n.Args) != 2 || n.Args[0].Name != "A" {
		t.Errorf("Named: %v", n)
	}
}

// TestNormal: normal forms by texts.
func TestNormal(t *testing.T) {
	for s, want := range map[string]string{
		"(None val | U32 val)":                         "(None val | U32 val)",
		"(U32 val | (None val | U32 val))":             "(None val | U32 val)",
		"(U32 val | U32 val!)":                         "U32 val",
		"A ref^":                                       "A ref",
		"A iso!":                                       "A iso!",
		"A trn^":                                       "A trn^",
		"$A^":                                          "$A^",
		"$A tag^":                                      "$A tag",
		"this box!":                                    "this box",
		"L[(B ref | A ref^)] ref":                      "L[(A ref | B ref)] ref",
		"(B ref & (A ref & C ref))":                    "(A ref & B ref & C ref)",
		"(B ref | (A ref & C ref))":                    "((A ref & C ref) | B ref)",
		"(B ref, A ref)":                               "(B ref, A ref)",
		"(this -> A ref)":                              "(this -> A ref)",
		"($A ref -> B ref^)":                           "($A ref -> B ref)",
		"(this box -> A ref)":                          "A box",
		"(this iso! -> A ref)":                         "error 13",
		"(this trn! -> A ref)":                         "A box",
		"(this tag -> A ref)":                          "error 13",
		"(this ref -> $A)":                             "error 2",
		"(this ref -> (this -> A ref))":                "error 2",
		"(this box -> ($A ref -> A ref))":              "A box",
		"(this box -> (A ref | A box))":                "A box",
		"(this -> (this val -> A ref))":                "(this -> A val)",
		"((this val -> A ref) | A val)":                "A val",
		"L[(this val -> A ref)] ref":                   "L[A val] ref",
		"((C ref & A ref) | (A ref & C ref^) | B ref)": "((A ref & C ref) | B ref)",
		"((A ref | A ref) & (A ref | A ref))":          "A ref",
		"((A ref | A ref), (B ref | A ref))":           "(A ref, (A ref | B ref))",
		"(\"b c\" ref | a ref | A ref)":                "(\"b c\" ref | A ref | a ref)",
	} {
		r, e := Normal(typ(t, s))
		if got := shown(t, r, e); got != want {
			t.Errorf("Normal of %s: %s, want %s", s, got, want)
		}
	}
}

// TestUnion: unions of lists.
func TestUnion(t *testing.T) {
	for _, x := range [][]string{
		{"", "error 1"}, {"A ref^", "A ref"}, {"B ref; A ref", "(A ref | B ref)"}, {"(B ref | A ref); A ref; B ref!", "(A ref | B ref)"},
		{"A ref; (this tag -> A ref)", "error 13"}, {"A ref;(A ref & B ref)", "((A ref & B ref) | A ref)"},
	} {
		var l []api.Type
		for s := range strings.SplitSeq(x[0], ";") {
			if s != "" {
				l = append(l, typ(t, strings.TrimSpace(s)))
			}
		}
		r, e := Union(l)
		if got := shown(t, r, e); got != x[1] {
			t.Errorf("Union of %s: %s, want %s", x[0], got, x[1])
		}
	}
	var all []api.Type
	for i := range 70 {
		all = append(all, name("A"+strings.Repeat("x", i%64)))
	}
	if r, e := Union(all); e != api.OK || len(r.Args) != 64 {
		t.Errorf("Union of 70 types, 64 of them different: %d, error %d", len(r.Args), e)
	}
	all[69].Name = "B"
	if r, e := Union(all); e != api.ErrSize || !reflect.DeepEqual(r, api.Type{}) {
		t.Errorf("Union of 65 different types: error %d, want %d", e, api.ErrSize)
	}
	if r, e := Union(slices.Repeat([]api.Type{wide(100)}, 10)); e != api.OK || !Equal(r, wide(100)) {
		t.Errorf("Union of ten equal types of 100 nodes: error %d", e)
	}
	if _, e := Union([]api.Type{deep(20), name("A")}); e != api.ErrSize {
		t.Errorf("Union with a type of 20 levels: error %d", e)
	}
	if _, e := Normal(api.Type{Kind: api.TypeUnion, Args: []api.Type{{Kind: api.TypeUnion, Args: all[:33]}, {Kind: api.TypeUnion, Args: all[33:64]}, name("Z")}}); e != api.ErrSize {
		t.Errorf("a union of more than 64: error %d", e)
	}
}

// mixed returns a type with the Args of unions in another order, and in other brackets.
func mixed(m *samples.Maker, t api.Type) api.Type {
	l := slices.Clone(t.Args)
	t.Args = l
	for i := range l {
		l[i] = mixed(m, l[i])
	}
	if t.Kind != api.TypeUnion {
		return t
	}
	for i := range l {
		j := m.Below(i + 1)
		l[i], l[j] = l[j], l[i]
	}
	if n := len(l); n > 2 {
		t.Args = append([]api.Type{{Kind: api.TypeUnion, Args: l[n-2:]}}, l[:n-2]...)
	} else if m.Below(3) == 0 {
		t.Args = append(l, l[0])
	}
	return t
}

// TestNormalOfAll: P8.3 for types by chance.
func TestNormalOfAll(t *testing.T) {
	right := 0
	for seed := range uint64(8000) {
		m := samples.New(seed)
		x := made(m)
		n, e := Normal(x)
		if e != api.OK {
			continue
		}
		right++
		if Check(n) != api.OK {
			t.Fatalf("Normal of %v is not well-formed", x)
		}
		if again, e := Normal(n); e != api.OK || !Equal(again, n) {
			t.Fatalf("Normal of Normal of %s: %s", shown(t, x, api.OK), shown(t, again, e))
		}
		y := mixed(m, x)
		if Check(y) == api.OK {
			if other, e := Normal(y); e != api.OK || !Equal(other, n) {
				t.Fatalf("Normal of %s: %s, of %s: %s", shown(t, x, api.OK), shown(t, n, api.OK), shown(t, y, api.OK), shown(t, other, e))
			}
		}
		if x.Kind == api.TypeUnion {
			if u, e := Union(x.Args); e != api.OK || !Equal(u, n) {
				t.Fatalf("Union of the Args of %s: error %d", shown(t, x, api.OK), e)
			}
		}
	}
	if right < 3000 {
		t.Errorf("only %d types have a normal form", right)
	}
}

// TestReified: Reified and Params.
func TestReified(t *testing.T) {
	for s, want := range map[string]string{
		"A ref": "", "L[A ref] ref": "", "this ref": "", "(this ref -> A ref)": "", "this": "-", "(this -> A ref)": "-", "L[this] ref": "-",
		"$A": "- A", "L[$A^] ref": "- A", "($B -> ($A | $B val))": "- B A", "Map[$C', L[$A ref] ref] ref": "- C' A",
	} {
		x := typ(t, s)
		if got := Params(x); strings.Join(got, " ") != strings.TrimLeft(want, "- ") {
			t.Errorf("Params of %s: %v", s, got)
		}
		if Reified(x) != (want == "") {
			t.Errorf("Reified of %s: %v", s, Reified(x))
		}
	}
}

// TestSubst: replacing by texts: the type, the parameters with their arguments, and the result.
func TestSubst(t *testing.T) {
	for _, x := range [][]string{
		{"$A ref^", "A=main.Cell iso", "main.Cell ref"}, {"$A!", "A=main.Cell iso", "main.Cell iso!"}, {"$A!", "A=main.Cell iso^", "main.Cell iso!"},
		{"$A", "A=main.Cell iso^", "main.Cell iso^"}, {"$A^", "A=C iso", "C iso^"}, {"$A^", "A=C iso!", "C iso!"}, {"$A^", "A=C ref", "C ref"},
		{"$A!", "A=C trn^", "C trn!"}, {"$A!", "A=C ref^", "C ref"}, {"$A!", "A=$B", "$B!"}, {"$A!", "A=$B^", "$B!"}, {"$A^", "A=$B", "$B^"},
		{"$A iso!", "A=C ref", "C iso!"}, {"$A iso^", "A=(C ref | D val)", "(C iso^ | D iso^)"}, {"$A box", "A=(this -> C ref)", "C box"},
		{"$A!", "A=(this -> C iso)", "(this -> C iso!)"}, {"$A", "A=(this -> C iso)", "(this -> C iso)"}, {"$A box", "A=L[$B] ref", "L[$B] box"},
		{"$A", "B=C ref", "$A"}, {"$A", "A=C ref;A=D ref", "C ref"}, {"$A", "A=$A val", "$A val"}, {"Map[$A, $B] ref", "A=$B;B=C ref", "Map[$B, C ref] ref"},
		{"($A -> C ref)", "A=D box", "(this box -> C ref)"}, {"($A -> C ref)", "A=D iso!", "(this iso! -> C ref)"}, {"($A -> C ref)", "A=this", "(this -> C ref)"},
		{"($A -> C ref)", "A=this val", "(this val -> C ref)"}, {"($A -> C ref)", "A=$B", "($B -> C ref)"}, {"($A ref! -> C ref)", "A=$B", "($B ref -> C ref)"},
		{"($A iso! -> C ref)", "A=D ref", "(this iso! -> C ref)"}, {"($A -> $A)", "A=D box", "(this box -> D box)"}, {"($A -> C ref)", "A=(C ref | D ref)", "error 2"},
		{"($A -> C ref)", "A=(C ref, D ref)", "error 2"}, {"($A -> C ref)", "A=(this -> D ref)", "error 2"}, {"($A val -> C ref)", "A=(this -> D ref)", "(this val -> C ref)"},
		{"(this -> $A)", "A=C ref", "(this -> C ref)"}, {"L[L[($A | $B)] ref] val", "A=C ref;B=D val", "L[L[(C ref | D val)] ref] val"},
		{"C ref", "A=D ref", "C ref"}, {"($A -> L[($A -> D ref)] ref)", "A=(C ref | D ref)", "error 2"},
	} {
		params, args := by(t, x[1])
		r, e := Subst(typ(t, x[0]), params, args)
		if got := shown(t, r, e); got != x[2] {
			t.Errorf("Subst of %s with %s: %s, want %s", x[0], x[1], got, x[2])
		}
	}
	if _, e := Subst(api.Type{}, []string{"A"}, nil); e != api.ErrArg {
		t.Errorf("Subst without an argument: error %d", e)
	}
	if _, e := Subst(typ(t, "($A, $A)"), []string{"A"}, []api.Type{wide(150)}); e != api.ErrSize {
		t.Errorf("Subst to 301 nodes: error %d", e)
	}
	if _, e := Subst(typ(t, "($A, $B)"), []string{"A", "B"}, []api.Type{wide(150), wide(149)}); e != api.OK {
		t.Errorf("Subst to 300 nodes: error %d", e)
	}
	if _, e := Subst(typ(t, "L[$A] ref"), []string{"A"}, []api.Type{deep(20)}); e != api.ErrSize {
		t.Errorf("Subst to 21 levels: error %d", e)
	}
}

// by returns the parameters and the arguments of a text.
func by(t *testing.T, s string) (params []string, args []api.Type) {
	t.Helper()
	for pair := range strings.SplitSeq(s, ";") {
		if p, a, ok := strings.Cut(pair, "="); ok {
			params, args = append(params, p), append(args, typ(t, a))
		}
	}
	return params, args
}

// TestSelf: the receiver's capability by texts.
func TestSelf(t *testing.T) {
	for _, x := range [][]string{
		{"(this -> main.Cell ref)", "val", "main.Cell val"}, {"(this -> C iso)", "box", "C tag"}, {"this", "iso!", "this iso!"}, {"this ref", "val", "this ref"},
		{"this!", "trn", "this trn"}, {"(this -> C ref)", "trn!", "C box"}, {"(this -> C ref)", "iso!", "error 13"}, {"(this -> C ref)", "tag", "error 13"},
		{"(this box -> C ref)", "ref", "C box"}, {"($A -> C ref)", "ref", "($A -> C ref)"}, {"($A box -> (this -> C ref))", "val", "($A box -> C val)"},
		{"(this -> (this box -> C ref))", "iso", "C tag"}, {"(this -> $A)", "ref", "error 2"}, {"(this -> $A iso)", "trn", "$A iso"},
		{"L[(this -> C ref)] ref", "val", "L[C val] ref"}, {"(this -> ($A box -> C ref))", "trn", "C box"}, {"(this -> ($A -> C ref))", "trn", "error 2"},
		{"(C ref | this | (this -> (D ref & E iso)))", "val", "(C ref | this val | (D val & E val))"}, {"C ref!", "ref", "C ref!"},
		{"(this tag -> (this -> $A))", "ref", "error 2"}, {"(this -> ((this tag -> C ref) | $A))", "ref", "error 13"},
	} {
		c, e := cap.Parse(strings.TrimRight(x[1], "^!"))
		if e != api.OK {
			t.Fatal(x[1])
		}
		r, e := Self(typ(t, x[0]), c, map[byte]int{'!': api.Aliased, '^': api.Ephemeral}[x[1][len(x[1])-1]])
		if got := shown(t, r, e); got != x[2] {
			t.Errorf("Self of %s with %s: %s, want %s", x[0], x[1], got, x[2])
		}
	}
	for _, x := range [][3]int{{0, 0, 13}, {7, 0, 13}, {-1, 9, 13}, {3, -1, 1}, {3, 3, 1}} {
		if r, e := Self(name("A"), x[0], x[1]); int(e) != x[2] || !reflect.DeepEqual(r, api.Type{}) {
			t.Errorf("Self with %d and %d: error %d, want %d", x[0], x[1], e, x[2])
		}
	}
}
