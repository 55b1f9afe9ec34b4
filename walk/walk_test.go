package walk_test

import (
	"reflect"
	"slices"
	"strings"
	"testing"

	"hackamore/api"
	"hackamore/walk"
)

func name(s string, args ...api.Type) api.Type {
	return api.Type{Kind: api.TypeName, Name: s, Cap: api.Ref, Args: args}
}

func of(kind int, args ...api.Type) api.Type { return api.Type{Kind: kind, Args: args} }

// sample is (A, (this -> (B[C] | $D))).
func sample() api.Type {
	d := api.Type{Kind: api.TypeParam, Name: "D"}
	return of(api.TypeTuple, name("A"), of(api.TypeArrow, of(api.TypeSelf), of(api.TypeUnion, name("B", name("C")), d)))
}

func texts(l []api.Type) string {
	var s []string
	for _, t := range l {
		s = append(s, t.Name)
	}
	return strings.Join(s, ",")
}

// TestTypes: nodes, parts, and what is said of types.
func TestTypes(t *testing.T) {
	if got := texts(slices.Collect(walk.Nodes(sample()))); got != ",A,,,,B,C,D" {
		t.Errorf("Nodes: %s", got)
	}
	if got := texts(slices.Collect(walk.Parts(sample()))); got != "A,B,D" {
		t.Errorf("Parts: %s", got)
	}
	for range walk.Nodes(sample()) {
		break
	}
	for range walk.Parts(sample()) {
		break
	}
	if !walk.HasArrow(sample()) || walk.HasArrow(name("A", of(api.TypeArrow))) || !walk.HasParams(sample()) || walk.HasParams(name("A")) {
		t.Error("HasArrow or HasParams")
	}
	if !walk.IsZero(api.Type{Args: []api.Type{}}) || walk.IsZero(api.Type{Cap: 1}) || walk.IsZero(api.Type{Args: []api.Type{{}}}) {
		t.Error("IsZero")
	}
	c := walk.Type(sample())
	c.Args[1].Args[1].Args[0].Args[0].Name = "X"
	if got := texts(slices.Collect(walk.Nodes(sample()))); got != ",A,,,,B,C,D" {
		t.Errorf("a copy shares its memory: %s", got)
	}
}

// TestCounts: what counts of capabilities with marks.
func TestCounts(t *testing.T) {
	for c := api.Iso; c <= api.Tag; c++ {
		for mark := api.Plain; mark <= api.Aliased; mark++ {
			want := c
			if mark == api.Aliased && c == api.Iso {
				want = api.Tag
			} else if mark == api.Aliased && c == api.Trn {
				want = api.Box
			}
			if got := walk.Counts(c, mark); got != want {
				t.Errorf("Counts of %d, %d: %d", c, mark, got)
			}
		}
	}
}

// TestExprs: nodes, sizes and copies of expressions.
func TestExprs(t *testing.T) {
	x := api.Expr{Op: 10, Kids: []api.Expr{{Op: 1, Text: "a", Types: []api.Type{name("A")}}, {Op: 20, Text: "b", Kids: []api.Expr{{Op: 3, Text: "c"}}}}}
	s := ""
	for n := range walk.Exprs(x) {
		s += n.Text + ","
	}
	if s != ",a,b,c," {
		t.Errorf("Exprs: %s", s)
	}
	for range walk.Exprs(x) {
		break
	}
	y, s := api.Expr{Op: 10, Kids: []api.Expr{{Text: "none", Kids: x.Kids}, {Op: 1, Text: "a"}, x}}, ""
	for n := range walk.Body(y) {
		s += n.Text + ","
	}
	if s != ",none,a,,a,b,c," {
		t.Errorf("Body: %s", s)
	}
	for n := range walk.Body(y) {
		if n.Text == "none" {
			break
		}
	}
	for _, l := range []struct {
		nodes, depth int
		want         bool
	}{{4, 3, true}, {3, 3, false}, {4, 2, false}} {
		if got := walk.Small(x, l.nodes, l.depth); got != l.want {
			t.Errorf("Small for %d nodes and %d levels: %v", l.nodes, l.depth, got)
		}
	}
	m := walk.Map(x, func(t api.Type) api.Type { return name(t.Name + "!") })
	c := walk.Expr(x)
	c.Kids[0].Types[0].Name = "X"
	if m.Kids[0].Types[0].Name != "A!" || x.Kids[0].Types[0].Name != "A" || m.Kids[1].Kids[0].Text != "c" {
		t.Error("Map or Expr")
	}
	if !walk.IsNone(api.Expr{Kids: []api.Expr{}}) || walk.IsNone(api.Expr{Text: "x"}) || walk.IsNone(api.Expr{Types: make([]api.Type, 1)}) {
		t.Error("IsNone")
	}
}

// TestProgramCopies: copies of programs and values share nothing with what they are copies of.
func TestProgramCopies(t *testing.T) {
	m := api.Method{Name: "f", Bounds: []api.Bound{{Name: "A", Type: sample()}}, Params: []api.Param{{Name: "a", Type: sample()}}, Result: sample(), Body: api.Expr{Op: 10, Kids: []api.Expr{{Op: 3}}}}
	whole := func() []api.Entity {
		return []api.Entity{{Name: "E", Bounds: []api.Bound{{Name: "A", Type: sample()}}, Provides: []api.Type{sample()}, Fields: []api.Field{{Name: "a", Type: sample()}}, Methods: []api.Method{walk.Method(m)}}}
	}
	p := whole()
	c := walk.Program(p)
	if !reflect.DeepEqual(p, c) {
		t.Errorf("a copy of %v: %v", p, c)
	}
	for _, change := range []func(){
		func() { c[0].Bounds[0].Type.Args[0].Name = "x" }, func() { c[0].Bounds[0].Name = "x" }, func() { c[0].Provides[0].Args[0].Name = "x" }, func() { c[0].Fields[0].Name = "x" },
		func() { c[0].Fields[0].Type.Args[0].Name = "x" }, func() { c[0].Methods[0].Name = "x" }, func() { c[0].Methods[0].Bounds[0].Type.Args[0].Name = "x" }, func() { c[0].Methods[0].Bounds[0].Name = "x" },
		func() { c[0].Methods[0].Params[0].Type.Args[0].Name = "x" }, func() { c[0].Methods[0].Params[0].Name = "x" }, func() { c[0].Methods[0].Result.Args[0].Name = "x" },
		func() { c[0].Methods[0].Body.Kids[0].Op = 9 }, func() { c[0].Name = "x" },
	} {
		change()
		if !reflect.DeepEqual(p, whole()) {
			t.Fatal("a copy shares its memory")
		}
	}
	v := api.Value{Kind: 5, Kids: []api.Value{{Kind: 5, Kids: []api.Value{{Lo: 1}}}}}
	d := walk.Value(v)
	if !reflect.DeepEqual(v, d) || len(walk.Values(nil)) > 0 {
		t.Errorf("a copy of %v: %v", v, d)
	}
	d.Kids[0].Kids[0].Lo = 2
	d.Kids[0].Lo = 2
	if v.Kids[0].Kids[0].Lo != 1 || v.Kids[0].Lo != 0 {
		t.Error("a copy of a value shares its memory")
	}
}
