package matching_test

import (
	"reflect"
	"slices"
	"strings"
	"testing"

	"hackamore/api"
	. "hackamore/matching"
	"hackamore/samples"
	"hackamore/subtype"
	"hackamore/types"
)

// cases returns the cases of texts; a ? at the end is a guard.
func cases(l ...string) []Case {
	var c []Case
	for _, s := range l {
		c = append(c, Case{read(strings.TrimSuffix(s, "?")), strings.HasSuffix(s, "?")})
	}
	return c
}

// TestMatches: the examples, and others.
func TestMatches(t *testing.T) {
	for i, x := range []struct {
		leaves      int
		operand     string
		l           []Case
		missed      string
		unreachable []int
	}{
		{3, "(0 1 2)", cases("(0)", "(1 2)?", "(2)"), "1", nil}, {3, "(0 1 2)", cases("(0)", "(1 2)?", "(2)", "(1)"), "", nil},
		{2, "((0 1);(0 1);)", cases("((0);(0 1);)", "((0 1);(1);)"), "<1,0,>", nil}, {2, "((0 1);(0 1);)", cases("((0);(0 1);)", "((0 1);(1);)", "((0);(0 1);)", "(0 1)", "((1);(0);)?", "((0 1);(0 1);)", "((1);(0);)"), "", []int{2, 3, 6}},
		{3, "", nil, "", nil}, {3, "", cases("(0)"), "", []int{0}}, {3, "(1)((0);(0);)", nil, "1", nil}, {3, "((2);(1);)((1);(2);)", nil, "<1,2,>", nil}, {3, "((0);(0);(0);)((2);(2);)", nil, "<2,2,>", nil},
		{3, "(((0);(0););(0);)((1);(1);)", nil, "<1,1,>", nil}, {3, "(0 1)", cases("(0 1)?", "(0 1)?", "(0)", "(0 1)?", "(0)?"), "1", []int{4}}, {3, "(0)((1);;)", cases("(0)"), "", nil},
	} {
		ok, v, e := Exhaustive(x.leaves, read(x.operand), x.l)
		missed := ""
		if !ok {
			missed = valueText(v)
		}
		if e != api.OK || missed != x.missed || ok && !reflect.DeepEqual(v, Value{}) {
			t.Errorf("%d: Exhaustive: %v, %s, error %d, want %s", i, ok, missed, e, x.missed)
		}
		if l, e := Unreachable(x.leaves, read(x.operand), x.l); e != api.OK || !slices.Equal(l, x.unreachable) {
			t.Errorf("%d: Unreachable: %v, error %d, want %v", i, l, e, x.unreachable)
		}
	}
	l := cases("(0)?", "(0 1)", "(0)")
	for _, x := range []struct {
		v     Value
		holds []bool
		want  int
	}{{leaf(0), []bool{true, false, false}, 0}, {leaf(0), []bool{false, false, false}, 1}, {leaf(1), []bool{true, true, true}, 1}, {leaf(2), []bool{true, true, true}, -1}, {tuple(leaf(0), leaf(0)), []bool{true, true, true}, -1}} {
		if n, e := Taken(3, l, x.v, x.holds); n != x.want || e != api.OK {
			t.Errorf("Taken of %s: %d, error %d", valueText(x.v), n, e)
		}
	}
}

// first returns the first value of a normal form, as the chapter says which one it is.
func first(p Pattern) Value {
	if len(p[0].Kids) == 0 {
		return leaf(p[0].Leaves[0])
	}
	var v Value
	for _, k := range p[0].Kids {
		v.Kids = append(v.Kids, first(k))
	}
	return v
}

// pathsOf puts the paths of the parts of a pattern into a set.
func pathsOf(p Pattern, at string, to map[string]bool) {
	to[at] = true
	for _, part := range p {
		for i, k := range part.Kids {
			pathsOf(k, at+string(rune('0'+i)), to)
		}
	}
}

func size(t Tree) int {
	n := 1
	for _, k := range t.Kids {
		n += size(k)
	}
	return n
}

// TestMatchesOfAll: P12.3 and P12.4 for matches by chance, against all values and guards.
func TestMatchesOfAll(t *testing.T) {
	worlds := [][3]int{{3, 2, 3}, {4, 2, 2}, {2, 3, 2}, {5, 1, 2}}
	for seed := range uint64(1500) {
		m := samples.New(seed)
		w := worlds[m.Below(len(worlds))]
		values := all(w[0], w[1], w[2])
		operand := made(m, w[0], w[1], w[2])
		var l []Case
		for range m.Below(5) {
			l = append(l, Case{made(m, w[0], w[1], w[2]), m.Below(2) == 0})
		}
		missed := taken(values, func(v Value) bool {
			return takes(operand, v) && !slices.ContainsFunc(l, func(c Case) bool { return !c.Guard && takes(c.Pattern, v) })
		})
		ok, v, e := Exhaustive(w[0], operand, l)
		if e != api.OK || ok != (len(missed) == 0) || !ok && valueText(v) != valueText(first(normal(missed))) {
			t.Fatalf("Exhaustive of %s, %v: %v, %s, error %d", show(operand), l, ok, valueText(v), e)
		}
		never, e := Unreachable(w[0], operand, l)
		for i, c := range l {
			reached := slices.ContainsFunc(values, func(v Value) bool {
				return takes(operand, v) && takes(c.Pattern, v) && !slices.ContainsFunc(l[:i], func(c Case) bool { return !c.Guard && takes(c.Pattern, v) })
			})
			if e != api.OK || slices.Contains(never, i) == reached {
				t.Fatalf("Unreachable of %s, %v: %v, error %d", show(operand), l, never, e)
			}
		}
		more := append(slices.Clone(l), Case{operand, false}, Case{Pattern: operand})
		if ok, _, e := Exhaustive(w[0], operand, more); !ok || e != api.OK {
			t.Fatalf("a case that takes the operand %s", show(operand))
		}
		if never, _ := Unreachable(w[0], operand, more); !slices.Contains(never, len(l)+1) {
			t.Fatalf("a case behind one that takes the operand %s", show(operand))
		}
		decided(t, m, w[0], operand, l, values, len(missed) == 0)
	}
}

// decided checks the tree of a match.
func decided(t *testing.T, m *samples.Maker, leaves int, operand Pattern, l []Case, values []Value, exhaustive bool) {
	t.Helper()
	tree, e := Decide(leaves, operand, l)
	if e != api.OK || CheckTree(leaves, len(l), tree) != api.OK {
		t.Fatalf("Decide of %s, %v: error %d, CheckTree: error %d", show(operand), l, e, CheckTree(leaves, len(l), tree))
	}
	paths := map[string]bool{}
	pathsOf(operand, "", paths)
	for _, c := range l {
		pathsOf(c.Pattern, "", paths)
	}
	for _, v := range values {
		if !takes(operand, v) {
			continue
		}
		for range 3 {
			var holds []bool
			for range l {
				holds = append(holds, m.Below(2) == 0)
			}
			want, _ := Taken(leaves, l, v, holds)
			got, tests, e := Run(leaves, tree, v, holds)
			if e != api.OK || got != want || tests > len(paths) || exhaustive && got < 0 {
				t.Fatalf("Run of %s, %v for %s: %d, %d tests, error %d, want %d", show(operand), l, valueText(v), got, tests, e, want)
			}
		}
	}
}

// TestSizes: trees for 20 parts have at most 5000 trees; larger ones are ErrFull.
func TestSizes(t *testing.T) {
	least := 0
	for seed := range uint64(400) {
		m := samples.New(seed)
		leaves := 1 + m.Below(199)
		some := func() Pattern {
			var l []int
			for i := range leaves {
				if m.Below(2) == 0 {
					l = append(l, i)
				}
			}
			return Pattern{{Leaves: append(l, leaves)}}
		}
		arity := m.Below(4) + 1
		make := func(one func() Pattern) Pattern {
			if arity == 1 {
				return one()
			}
			var kids []Pattern
			for range arity {
				kids = append(kids, one())
			}
			return Pattern{{Kids: kids}}
		}
		operand := make(func() Pattern { return span(0, leaves+1) })
		var l []Case
		for parts := count(operand); parts < 20; {
			c := Case{make(some), m.Below(5) > 0}
			if parts += count(c.Pattern); parts <= 20 {
				l = append(l, c)
			}
		}
		tree, e := Decide(leaves+1, operand, l)
		if e != api.OK || size(tree) > 5000 {
			t.Fatalf("seed %d: %d cases, %d trees, error %d", seed, len(l), size(tree), e)
		}
		least = max(least, size(tree))
	}
	if least < 1000 {
		t.Errorf("no tree has more than %d trees", least)
	}
	m := samples.New(1)
	var l []Case
	for range 64 {
		var leaves []int
		for j := range 200 {
			if m.Below(2) == 0 {
				leaves = append(leaves, j)
			}
		}
		l = append(l, Case{Pattern{{Leaves: leaves}}, true})
	}
	if tree, e := Decide(200, span(0, 200), l); e != api.ErrFull || !reflect.DeepEqual(tree, Tree{}) {
		t.Errorf("a tree that is too large: %d, error %d", size(tree), e)
	}
}

// TestCheckTree: which trees are right, and Run.
func TestCheckTree(t *testing.T) {
	take := func(n int, kids ...Tree) Tree { return Tree{Kind: Take, Case: n, Kids: kids} }
	test := func(path []int, sorts []Sort, kids ...Tree) Tree {
		return Tree{Kind: Test, Path: path, Sorts: sorts, Kids: kids}
	}
	pair := []Sort{{Leaves: []int{0, 2}}, {Arity: 2}}
	chain := func(n int) Tree {
		x := Tree{}
		for range n - 1 {
			x = take(0, x)
		}
		return x
	}
	two := []Sort{{Arity: 2}}
	for i, x := range []struct {
		t    Tree
		want api.Errno
	}{
		{Tree{}, api.OK}, {Tree{Kind: 3}, ErrTree}, {Tree{Kind: -1}, ErrTree}, {Tree{Case: 1}, ErrTree}, {Tree{Path: []int{0}}, ErrTree}, {Tree{Sorts: pair}, ErrTree}, {Tree{Kids: []Tree{{}}}, ErrTree},
		{take(1), api.OK}, {take(2), ErrTree}, {take(-1), ErrTree}, {take(0, Tree{}), api.OK}, {take(0, Tree{}, Tree{}), ErrTree}, {take(0, Tree{Kind: 5}), ErrTree}, {Tree{Kind: Take, Path: []int{0}}, ErrTree}, {Tree{Kind: Take, Sorts: pair}, ErrTree},
		{test(nil, pair, take(0), take(1)), api.OK}, {test(nil, nil), ErrTree}, {test(nil, pair, take(0)), ErrTree}, {test(nil, pair[:1], take(0), take(0)), ErrTree}, {Tree{Kind: Test, Case: 1, Sorts: pair[:1], Kids: []Tree{{}}}, ErrTree},
		{test(nil, []Sort{{}}, take(0)), ErrTree}, {test(nil, []Sort{{Leaves: []int{3}}}, take(0)), ErrTree}, {test(nil, []Sort{{Leaves: []int{1, 0}}}, take(0)), ErrTree}, {test(nil, []Sort{{Leaves: []int{0}, Arity: 2}}, take(0)), ErrTree},
		{test(nil, []Sort{{Arity: 1}}, take(0)), ErrTree}, {test(nil, []Sort{{Arity: 5}}, take(0)), ErrTree}, {test(nil, []Sort{{Arity: -2}}, take(0)), ErrTree}, {test(nil, []Sort{{Arity: 2}, {Arity: 2}}, take(0), take(0)), ErrTree},
		{test(nil, []Sort{{Arity: 2}, {Arity: 4}}, take(0), take(0)), api.OK}, {test(nil, []Sort{{Leaves: []int{0, 1}}, {Leaves: []int{1, 2}}}, take(0), take(0)), ErrTree}, {test(nil, pair, take(0), Tree{Kind: 7}), ErrTree},
		{test([]int{0}, pair, take(0), take(0)), ErrTree}, {test(nil, pair, take(0), test([]int{1}, pair, take(0), take(1))), api.OK}, {test(nil, pair, test([]int{1}, pair, take(0), take(1)), take(0)), ErrTree},
		{test(nil, pair, take(0), test([]int{2}, pair, take(0), take(1))), ErrTree}, {test(nil, pair, take(0), test([]int{-1}, pair, take(0), take(1))), ErrTree}, {test(nil, pair, take(0), take(0, test(nil, pair, take(0), take(1)))), ErrTree},
		{test(nil, two, test([]int{0}, two, test([]int{0, 1}, two, test([]int{0, 1, 1}, two, take(0))))), api.OK}, {test(nil, two, test([]int{0}, two, test([]int{0, 1}, two, test([]int{0, 1, 1}, two, test([]int{0, 1, 1, 0}, two, take(0)))))), ErrTree},
		{test(nil, two, test([]int{0, 0}, two, take(0))), ErrTree}, {test(nil, two, test([]int{0}, two, test([]int{1}, two, test([]int{0, 0}, two, test([]int{0}, two, take(0)))))), ErrTree}, {chain(5000), api.OK}, {chain(5001), ErrTree},
	} {
		if e := CheckTree(3, 2, x.t); e != x.want {
			t.Errorf("%d: error %d, want %d", i, e, x.want)
		}
		if n, tests, e := Run(3, x.t, leaf(0), []bool{true, true}); e != x.want || e != api.OK && n+tests != 0 {
			t.Errorf("%d: Run: %d, %d, error %d, want %d", i, n, tests, e, x.want)
		}
	}
	for n, want := range map[int]api.Errno{-1: api.ErrSize, 65: api.ErrSize, 64: ErrTree, 0: ErrTree} {
		if e := CheckTree(3, n, Tree{Kind: 9}); e != want {
			t.Errorf("%d cases: error %d, want %d", n, e, want)
		}
	}
	if _, _, e := Run(3, Tree{}, leaf(0), make([]bool, 65)); e != api.ErrSize {
		t.Errorf("65 holds: error %d", e)
	}
	if _, _, e := Run(3, Tree{Kind: 9}, leaf(5), make([]bool, 65)); e != ErrPattern {
		t.Errorf("a wrong value ahead: error %d", e)
	}
	tree := test(nil, pair, take(0, take(1)), test([]int{1}, pair[:1], take(1, Tree{})))
	for _, x := range []struct {
		v     Value
		holds []bool
		want  [2]int
	}{
		{leaf(0), []bool{true, false}, [2]int{0, 1}}, {leaf(2), []bool{false, false}, [2]int{1, 1}}, {leaf(1), []bool{true, true}, [2]int{-1, 1}}, {tuple(leaf(1), leaf(0)), []bool{true, true}, [2]int{1, 2}},
		{tuple(leaf(1), leaf(0)), []bool{true, false}, [2]int{-1, 2}}, {tuple(leaf(0), leaf(1)), []bool{true, true}, [2]int{-1, 2}}, {tuple(leaf(0), leaf(0), leaf(0)), []bool{true, true}, [2]int{-1, 1}},
	} {
		if n, tests, e := Run(3, tree, x.v, x.holds); e != api.OK || n != x.want[0] || tests != x.want[1] {
			t.Errorf("Run for %s: %d, %d tests, error %d, want %v", valueText(x.v), n, tests, e, x.want)
		}
	}
}

// program has the leaves A, B, P and X; T is provided by A, I has a method of B and P, and G has a type parameter.
func program() []api.Entity {
	method := func(c int) []api.Method { return []api.Method{{Kind: api.Fun, Name: "m", Cap: c}} }
	return []api.Entity{
		{Kind: api.Trait, Name: "T", Cap: api.Ref}, {Kind: api.Class, Name: "A", Cap: api.Ref, Provides: []api.Type{types.Named("T", api.Ref, nil)}},
		{Kind: api.Actor, Name: "B", Cap: api.Tag, Methods: method(api.Ref)}, {Kind: api.Interface, Name: "I", Cap: api.Ref, Methods: method(api.Box)},
		{Kind: api.Primitive, Name: "P", Cap: api.Val, Methods: method(api.Box)}, {Kind: api.Class, Name: "X", Cap: api.Ref, Bounds: []api.Bound{{Name: "Y"}}}, {Kind: 9, Name: "Odd"},
		{Kind: api.Interface, Name: "Any", Cap: api.Tag}, {Kind: api.Trait, Name: "None", Cap: api.Ref}, {Kind: api.Trait, Name: "A", Cap: api.Ref},
	}
}

// TestOf: patterns of types by texts.
func TestOf(t *testing.T) {
	p := program()
	if l := Leaves(p); !slices.Equal(l, []string{"A", "B", "P", "X"}) {
		t.Fatalf("Leaves: %v", l)
	}
	for s, want := range map[string]string{
		"A ref": "(0)", "B tag!": "(1)", "P iso^": "(2)", "X val": "(3)", "T ref": "(0)", "I iso": "(1 2)", "Any tag": "(0 1 2 3)", "None val": "", "Odd ref": "", "(A ref | P val)": "(0 2)", "(I ref & (A ref | P tag))": "(2)", "(A ref & B ref)": "",
		"(this -> A ref)": "(0)", "($Z -> (this -> I ref))": "(1 2)", "(A ref, I ref)": "((0);(1 2);)", "(A ref, None ref)": "", "((A ref, A ref) | (B ref, A ref) | P val)": "(2)((0 1);(0);)", "((A ref, Any ref) & (T ref, I ref))": "((0);(1 2);)",
		"((A ref, A ref) & A ref)": "", "(A ref, A ref, (A ref, (B ref, B ref)))": "((0);(0);((0);((1);(1););););)", "((A ref, (B ref | (A ref, A ref))) | None ref)": "((0);(1)((0);(0););)",
	} {
		got, e := Of(p, typ(t, s))
		if show(got) != show(read(want)) || e != api.OK {
			t.Errorf("Of %s: %s, error %d, want %s", s, show(got), e, want)
		}
	}
	a := types.Named("A", api.Ref, nil)
	of := func(kind int, l ...api.Type) api.Type { return api.Type{Kind: kind, Args: l} }
	deep := of(api.TypeTuple, a, of(api.TypeUnion, a, of(api.TypeTuple, a, of(api.TypeArrow, a, of(api.TypeTuple, a, a)))))
	for i, x := range []struct {
		t    api.Type
		want api.Errno
	}{
		{typ(t, "$Z"), api.ErrType}, {typ(t, "this"), api.ErrType}, {typ(t, "(A ref | this ref)"), api.ErrType}, {typ(t, "A[A ref] ref"), api.ErrForm}, {typ(t, "Z[A ref] ref"), api.ErrForm}, {typ(t, "Z ref"), api.ErrNone},
		{of(api.TypeArrow, a), api.ErrForm}, {of(api.TypeArrow, a, a, a), api.ErrForm}, {of(api.TypeArrow, of(9), a), api.OK}, {of(api.TypeUnion, a), api.ErrForm}, {of(api.TypeBoth, a), api.ErrForm}, {of(api.TypeTuple, a), api.ErrForm}, {of(api.TypeTuple), api.ErrForm},
		{of(0), api.ErrForm}, {of(8), api.ErrForm}, {of(-1), api.ErrForm}, {of(api.TypeTuple, a, a, a, a, a), ErrPattern}, {of(api.TypeTuple, a, a, a, a), api.OK}, {deep, api.OK}, {of(api.TypeTuple, a, deep), ErrPattern}, {of(api.TypeUnion, a, deep), api.OK},
		{of(api.TypeUnion, typ(t, "Z ref"), of(9)), api.ErrNone}, {of(api.TypeUnion, of(9), typ(t, "Z ref")), api.ErrForm}, {of(api.TypeTuple, of(9), a, a, a, a), ErrPattern}, {api.Type{Kind: api.TypeName, Name: "A", Cap: 99, Mark: -1}, api.OK}, {of(api.TypeBoth, slices.Repeat([]api.Type{a}, 500)...), api.OK},
	} {
		if got, e := Of(p, x.t); e != x.want || e != api.OK && got != nil {
			t.Errorf("%d: Of: %s, error %d, want %d", i, show(got), e, x.want)
		}
	}
	many := slices.Repeat(p[:1], 201)
	if l := Leaves(many); l != nil {
		t.Errorf("Leaves of 201 entities: %v", l)
	}
	if _, e := Of(many, typ(t, "$Z")); e != api.ErrSize {
		t.Errorf("Of 201 entities: error %d", e)
	}
	if l := Leaves(slices.Repeat(p[1:2], 200)); len(l) != 200 {
		t.Errorf("Leaves of 200 entities: %d", len(l))
	}
}

func typ(t *testing.T, s string) api.Type {
	t.Helper()
	x, e := types.Parse(s)
	if e != api.OK {
		t.Fatalf("%s: error %d", s, e)
	}
	return x
}

// TestOfLarge: a type whose pattern has too many parts.
func TestOfLarge(t *testing.T) {
	var p []api.Entity
	for i := range 19 {
		p = append(p, api.Entity{Kind: api.Class, Name: "C" + string(rune('a'+i)), Cap: api.Ref})
	}
	p = append(p, api.Entity{Kind: api.Interface, Name: "Any", Cap: api.Tag})
	any := types.Named("Any", api.Tag, nil)
	u := api.Type{Kind: api.TypeUnion}
	for _, e := range p[:19] {
		c := types.Named(e.Name, api.Ref, nil)
		u.Args = append(u.Args, api.Type{Kind: api.TypeTuple, Args: []api.Type{c, c, any, c}}, api.Type{Kind: api.TypeTuple, Args: []api.Type{any, c, c, c}}, api.Type{Kind: api.TypeTuple, Args: []api.Type{c, any, any, c}})
	}
	if got, e := Of(p, u); e != api.ErrLarge || got != nil {
		t.Errorf("a large type: %d parts, error %d", count(got), e)
	}
}

// TestTypes: P12.5 for types by chance.
func TestTypes(t *testing.T) {
	p := program()
	leaves := Leaves(p)
	for seed := range uint64(2000) {
		m := samples.New(seed)
		a, b := m.CoreType(3, map[string]int{"A": 0, "B": 0, "P": 0, "T": 0, "I": 0, "Any": 0}), m.CoreType(3, map[string]int{"A": 0, "B": 0, "P": 0, "T": 0, "I": 0, "None": 0})
		x, e := Of(p, a)
		y, f := Of(p, b)
		if e != api.OK || f != api.OK {
			continue
		}
		u, e := Of(p, api.Type{Kind: api.TypeUnion, Args: []api.Type{a, b}})
		if want, _ := Normal(len(leaves), slices.Concat(x, y)); e != api.OK || show(u) != show(want) {
			t.Fatalf("Of the union of %v and %v: %s, error %d", a, b, show(u), e)
		}
		both, e := Of(p, api.Type{Kind: api.TypeBoth, Args: []api.Type{a, b}})
		if want, _ := Both(len(leaves), x, y); e != api.OK || show(both) != show(want) {
			t.Fatalf("Of the intersection of %v and %v: %s, error %d", a, b, show(both), e)
		}
		if n, _ := Normal(len(leaves), x); show(n) != show(x) {
			t.Fatalf("Of %v is not normal: %s", a, show(x))
		}
	}
	for _, e := range p {
		x, _ := Of(p, types.Named(e.Name, api.Ref, nil))
		for _, f := range p {
			y, _ := Of(p, types.Named(f.Name, api.Ref, nil))
			ok, _ := Within(len(leaves), y, x)
			if sub := subtype.Bare(p, types.Named(e.Name, api.Ref, nil), types.Named(f.Name, api.Tag, nil)); sub && !ok {
				t.Errorf("%s is a subtype of %s, and not within it", e.Name, f.Name)
			}
		}
	}
}
