package matching_test

import (
	"cmp"
	"reflect"
	"slices"
	"strconv"
	"strings"
	"testing"

	"hackamore/api"
	. "hackamore/matching"
	"hackamore/samples"
)

// read returns the pattern of a text: parts, each in round brackets: leaves (0 1), or elements, with ; behind each: ((0); (1 2);).
func read(s string) Pattern {
	at := 0
	var pattern func() Pattern
	part := func() Part {
		var p Part
		at++
		for s[at] != ')' {
			switch {
			case s[at] == ' ':
				at++
			case s[at] == '(' || s[at] == ';':
				p.Kids = append(p.Kids, pattern())
				at++
			default:
				from := at
				for s[at] >= '0' && s[at] <= '9' || s[at] == '-' {
					at++
				}
				n, _ := strconv.Atoi(s[from:at])
				p.Leaves = append(p.Leaves, n)
			}
		}
		at++
		return p
	}
	pattern = func() Pattern {
		var p Pattern
		for at < len(s) && s[at] == '(' {
			p = append(p, part())
		}
		return p
	}
	return pattern()
}

func show(p Pattern) string {
	s := ""
	for _, part := range p {
		var l []string
		for _, leaf := range part.Leaves {
			l = append(l, strconv.Itoa(leaf))
		}
		s += "(" + strings.Join(l, " ")
		for _, k := range part.Kids {
			s += show(k) + ";"
		}
		s += ")"
	}
	return s
}

func leaf(n int) Value { return Value{Leaf: n} }

func tuple(l ...Value) Value { return Value{Kids: l} }

func valueText(v Value) string {
	if len(v.Kids) == 0 {
		return strconv.Itoa(v.Leaf)
	}
	s := "<"
	for _, k := range v.Kids {
		s += valueText(k) + ","
	}
	return s + ">"
}

// all returns all values of so many leaves with at most so many levels, and tuples of 2 or 3 elements.
func all(leaves, depth, arity int) []Value {
	var l []Value
	for i := range leaves {
		l = append(l, leaf(i))
	}
	if depth == 1 {
		return l
	}
	inner := all(leaves, depth-1, arity)
	lists := [][]Value{nil}
	for n := 1; n <= arity; n++ {
		var longer [][]Value
		for _, x := range lists {
			for _, v := range inner {
				longer = append(longer, append(slices.Clone(x), v))
			}
		}
		lists = longer
		for _, x := range lists {
			if n > 1 {
				l = append(l, tuple(x...))
			}
		}
	}
	return l
}

// takes is what a pattern takes by its definition.
func takes(p Pattern, v Value) bool {
	for _, part := range p {
		ok := len(part.Kids) == len(v.Kids) && (len(v.Kids) > 0 || slices.Contains(part.Leaves, v.Leaf))
		for i := range part.Kids {
			ok = ok && takes(part.Kids[i], v.Kids[i])
		}
		if ok {
			return true
		}
	}
	return false
}

func compare(p, q Pattern) int {
	return slices.CompareFunc(p, q, func(a, b Part) int {
		if len(a.Kids) == 0 && len(b.Kids) == 0 {
			return slices.Compare(a.Leaves, b.Leaves)
		}
		return cmp.Or(cmp.Compare(len(a.Kids), len(b.Kids)), slices.CompareFunc(a.Kids, b.Kids, compare))
	})
}

// normal returns the normal form of a set of values, as the chapter says what it is.
func normal(l []Value) Pattern {
	var p Pattern
	var leaves []int
	tuples := map[int][][]Value{}
	for _, v := range l {
		if len(v.Kids) == 0 {
			leaves = append(leaves, v.Leaf)
		} else {
			tuples[len(v.Kids)] = append(tuples[len(v.Kids)], v.Kids)
		}
	}
	slices.Sort(leaves)
	if leaves = slices.Compact(leaves); len(leaves) > 0 {
		p = append(p, Part{Leaves: leaves})
	}
	for n := 2; n <= 4; n++ {
		for _, kids := range divided(tuples[n]) {
			p = append(p, Part{Kids: kids})
		}
	}
	slices.SortFunc(p, func(a, b Part) int { return compare(Pattern{a}, Pattern{b}) })
	return p
}

// divided returns the elements of the parts into which lists of values are divided.
func divided(l [][]Value) [][]Pattern {
	if len(l) == 0 {
		return nil
	}
	if len(l[0]) == 1 {
		var only []Value
		for _, x := range l {
			only = append(only, x[0])
		}
		return [][]Pattern{{normal(only)}}
	}
	firsts, rests, texts := map[string]Value{}, map[string][][]Value{}, map[string][]string{}
	for _, x := range l {
		t := valueText(x[0])
		firsts[t], rests[t], texts[t] = x[0], append(rests[t], x[1:]), append(texts[t], valueText(tuple(x[1:]...)))
	}
	groups, behind := map[string][]Value{}, map[string][][]Value{}
	for t, v := range firsts {
		slices.Sort(texts[t])
		key := strings.Join(slices.Compact(texts[t]), " ")
		groups[key], behind[key] = append(groups[key], v), rests[t]
	}
	var parts [][]Pattern
	for key, g := range groups {
		first := normal(g)
		for _, rest := range divided(behind[key]) {
			parts = append(parts, append([]Pattern{first}, rest...))
		}
	}
	return parts
}

// taken returns those of some values that a function takes.
func taken(l []Value, is func(v Value) bool) []Value {
	return slices.DeleteFunc(slices.Clone(l), func(v Value) bool { return !is(v) })
}

// TestNormal: normal forms by texts.
func TestNormal(t *testing.T) {
	for _, x := range []struct {
		leaves  int
		s, want string
	}{
		{3, "", ""}, {3, "(0)(2)(1 2)", "(0 1 2)"}, {2, "((0);(0 1);)((1);(0);)", "((0);(0 1);)((1);(0);)"}, {2, "((0);(0);)((0);(1);)((1);(0);)", "((0);(0 1);)((1);(0);)"},
		{2, "((0);(0);)((1);(0);)((0);(1);)", "((0);(0 1);)((1);(0);)"}, {2, "((0);;)", ""}, {2, "(;(0);)(1)", "(1)"}, {2, "((0);(0);(0);)((0);(0);)(0)", "(0)((0);(0);)((0);(0);(0);)"},
		{3, "((0 1);(0);)((1 2);(1);)", "((0);(0);)((1);(0 1);)((2);(1);)"}, {3, "((0);(0);(0);)((0);(1);(1);)((1);(1);(1);)((1);(0);(0);)", "((0 1);(0);(0);)((0 1);(1);(1);)"},
		{3, "((0)((1);(2););(0);)", "((0)((1);(2););(0);)"}, {3, "((0);(0);)(((1);(2););(0);)", "((0)((1);(2););(0);)"}, {3, "(((1);(2););(0);)(((1);(1););(1);)", "(((1);(1););(1);)(((1);(2););(0);)"},
		{0, "", ""}, {0, "(;;)", ""}, {2, "((0);((0);((0);(0);););)", "((0);((0);((0);(0);););)"},
	} {
		if p, e := Normal(x.leaves, read(x.s)); e != api.OK || show(p) != x.want {
			t.Errorf("Normal of %s: %s, error %d, want %s", x.s, show(p), e, x.want)
		}
	}
}

// wrong are patterns over 3 leaves with an error.
func wrong() map[string]api.Errno {
	l := map[string]api.Errno{
		strings.Repeat("(0)", 201): api.ErrSize, "(" + strings.Repeat("(0)", 199) + ";(0);)": api.ErrSize, "((0);((0);((0);((0);(0););););)": api.ErrSize, "(((((9);(0););(0););(0););(0);)": api.ErrSize,
	}
	for _, s := range []string{"()", "(3)", "(-1)", "(0 0)", "(1 0)", "(0 1 3)", "((0);)", "((0);(0);(0);(0);(0);)", "(0 (0);(0);)", "((0);(3);)", "((0);();)", "(0)()", "((0);((0););)"} {
		l[s] = ErrPattern
	}
	return l
}

// TestErrors: the errors of all functions, in their order.
func TestErrors(t *testing.T) {
	good, one := read("(0)"), []Case{{read("(0)"), false}}
	for s, want := range wrong() {
		p := read(s)
		l := []Case{{good, false}, {p, true}}
		_, e1 := Normal(3, p)
		_, e2 := Takes(3, p, leaf(9))
		_, e3 := Both(3, p, good)
		_, e4 := Less(3, good, p)
		_, e5 := Within(3, good, p)
		n, e6 := Taken(3, l, leaf(9), nil)
		_, _, e7 := Exhaustive(3, p, one)
		_, e8 := Unreachable(3, good, l)
		_, e9 := Decide(3, good, l)
		_, e10 := Decide(3, p, make([]Case, 65))
		for i, e := range []api.Errno{Check(3, p), e1, e2, e3, e4, e5, e6, e7, e8, e9, e10} {
			if e != want || n != 0 {
				t.Errorf("%s, call %d: error %d, want %d", s, i, e, want)
			}
		}
		for _, leaves := range []int{-1, 201} {
			_, e1 := Normal(leaves, p)
			_, e2 := Takes(leaves, p, leaf(9))
			_, e3 := Both(leaves, p, p)
			_, e4 := Within(leaves, p, p)
			_, e5 := Taken(leaves, l, leaf(9), nil)
			_, _, e6 := Exhaustive(leaves, p, l)
			_, e7 := Unreachable(leaves, p, l)
			_, e8 := Decide(leaves, p, l)
			_, _, e9 := Run(leaves, Tree{Kind: 9}, leaf(9), nil)
			for i, e := range []api.Errno{Check(leaves, p), e1, e2, e3, e4, e5, e6, e7, e8, e9, CheckTree(leaves, -1, Tree{})} {
				if e != api.ErrArg {
					t.Errorf("%d leaves, call %d: error %d", leaves, i, e)
				}
			}
		}
	}
	for _, s := range []string{strings.Repeat("(0)", 200), "(" + strings.Repeat("(0)", 198) + ";(0);)", "((0);((0);((0);(0););););"} {
		if e := Check(3, read(s)); e != api.OK {
			t.Errorf("%.60s: error %d", s, e)
		}
	}
	if Check(0, nil) != api.OK || Check(200, read("(199)")) != api.OK || Check(199, read("(199)")) != ErrPattern {
		t.Error("numbers of leaves")
	}
	many := slices.Repeat([]Case{{read("(9)"), false}}, 65)
	if _, e := Taken(3, many, leaf(9), nil); e != api.ErrSize {
		t.Errorf("65 cases: error %d", e)
	}
	if _, _, e := Exhaustive(3, good, many); e != api.ErrSize {
		t.Errorf("65 cases: error %d", e)
	}
	if _, _, e := Exhaustive(3, read("(9)"), many); e != ErrPattern {
		t.Errorf("65 cases, and a wrong operand: error %d", e)
	}
	if ok, _, e := Exhaustive(3, good, slices.Repeat(one, 64)); !ok || e != api.OK {
		t.Errorf("64 cases: error %d", e)
	}
	if n, e := Taken(3, one, leaf(0), nil); e != api.ErrSize || n != 0 {
		t.Errorf("holds of no cases: %d, error %d", n, e)
	}
}

// TestValues: which values are right.
func TestValues(t *testing.T) {
	deep := tuple(leaf(0), tuple(leaf(0), tuple(leaf(0), leaf(0))))
	for i, x := range []struct {
		v    Value
		want api.Errno
	}{
		{leaf(0), api.OK}, {leaf(2), api.OK}, {leaf(3), ErrPattern}, {leaf(-1), ErrPattern}, {tuple(leaf(0)), ErrPattern}, {tuple(leaf(0), leaf(3)), ErrPattern}, {Value{1, []Value{leaf(0), leaf(0)}}, ErrPattern},
		{tuple(leaf(0), leaf(0), leaf(0), leaf(0)), api.OK}, {tuple(leaf(0), leaf(0), leaf(0), leaf(0), leaf(0)), ErrPattern}, {deep, api.OK}, {tuple(deep, leaf(0)), ErrPattern},
	} {
		_, e1 := Takes(3, nil, x.v)
		_, e2 := Taken(3, nil, x.v, nil)
		_, _, e3 := Run(3, Tree{}, x.v, nil)
		if e1 != x.want || e2 != x.want || e3 != x.want {
			t.Errorf("%d: errors %d, %d, %d, want %d", i, e1, e2, e3, x.want)
		}
	}
}

// made returns a pattern by chance, of at most so many levels; some of its parts take nothing.
func made(m *samples.Maker, leaves, depth, arity int) Pattern {
	var p Pattern
	for range m.Below(4) + m.Below(2) {
		if depth == 1 || m.Below(3) == 0 {
			var l []int
			for i := range leaves {
				if m.Below(2) == 0 {
					l = append(l, i)
				}
			}
			if len(l) > 0 {
				p = append(p, Part{Leaves: l})
			}
			continue
		}
		var kids []Pattern
		for range 2 + m.Below(arity-1) {
			kids = append(kids, made(m, leaves, depth-1, arity))
		}
		p = append(p, Part{Kids: kids})
	}
	return p
}

// TestSets: P12.1 and P12.2 for patterns by chance, against all values.
func TestSets(t *testing.T) {
	worlds := [][3]int{{3, 2, 3}, {4, 2, 2}, {2, 3, 2}}
	for seed := range uint64(1500) {
		m := samples.New(seed)
		w := worlds[m.Below(len(worlds))]
		values := all(w[0], w[1], w[2])
		p, q, r := made(m, w[0], w[1], w[2]), made(m, w[0], w[1], w[2]), made(m, w[0], w[1], w[2])
		inP := func(v Value) bool { return takes(p, v) }
		inQ := func(v Value) bool { return takes(q, v) }
		for _, v := range values {
			if ok, e := Takes(w[0], p, v); e != api.OK || ok != inP(v) {
				t.Fatalf("Takes of %s and %s: %v, error %d", show(p), valueText(v), ok, e)
			}
		}
		same := func(what string, got Pattern, e api.Errno, is func(v Value) bool) {
			t.Helper()
			if want := normal(taken(values, is)); e != api.OK || show(got) != show(want) {
				t.Fatalf("%s of %s and %s: %s, error %d, want %s", what, show(p), show(q), show(got), e, show(want))
			}
		}
		n, e := Normal(w[0], p)
		same("Normal", n, e, inP)
		again, e := Normal(w[0], n)
		same("Normal of Normal", again, e, inP)
		b, e := Both(w[0], p, q)
		same("Both", b, e, func(v Value) bool { return inP(v) && inQ(v) })
		l, e := Less(w[0], p, q)
		same("Less", l, e, func(v Value) bool { return inP(v) && !inQ(v) })
		if l, e := Less(w[0], p, p); e != api.OK || len(l) > 0 {
			t.Fatalf("Less of %s and itself: %s", show(p), show(l))
		}
		union := slices.Concat(p, q)
		within := func(p, q Pattern) bool {
			ok, e := Within(w[0], p, q)
			if want := !slices.ContainsFunc(values, func(v Value) bool { return takes(q, v) && !takes(p, v) }); e != api.OK || ok != want {
				t.Fatalf("Within of %s and %s: %v, error %d", show(p), show(q), ok, e)
			}
			return ok
		}
		if !within(union, p) || !within(p, p) || within(p, q) && within(q, r) && !within(p, r) || !within(p, b) {
			t.Fatalf("Within is no order: %s, %s, %s", show(p), show(q), show(r))
		}
		within(q, p)
	}
}

// span returns the pattern of the leaves of a span.
func span(from, to int) Pattern {
	var l []int
	for i := from; i < to; i++ {
		l = append(l, i)
	}
	return Pattern{{Leaves: l}}
}

// TestLarge: results that would be too large, and what is known of them.
func TestLarge(t *testing.T) {
	var q Pattern // what is left are tuples of 4 whose first elements, or whose last ones, differ
	for i := range 18 {
		a, b := span(i, i+1), span(0, 20)
		q = append(q, Part{Kids: []Pattern{a, a, b, a}}, Part{Kids: []Pattern{b, a, a, a}})
	}
	whole := Pattern{{Kids: slices.Repeat([]Pattern{span(0, 20)}, 4)}}
	if n, e := Less(20, whole, q); e != api.ErrLarge || n != nil {
		t.Errorf("a difference of many parts: %d, error %d", count(n), e)
	}
	if n, e := Normal(20, q); e != api.ErrLarge || n != nil {
		t.Errorf("a normal form of many parts: %d, error %d", count(n), e)
	}
	if n, e := Both(20, q, whole); e != api.ErrLarge || n != nil {
		t.Errorf("what many parts have together: %d, error %d", count(n), e)
	}
	if ok, e := Within(20, q, whole); ok || e != api.OK {
		t.Errorf("Within of many parts: %v, error %d", ok, e)
	}
	ok, v, e := Exhaustive(20, whole, []Case{{q, false}, {whole, true}})
	if want := tuple(leaf(0), leaf(0), leaf(0), leaf(1)); ok || e != api.OK || valueText(v) != valueText(want) {
		t.Errorf("Exhaustive of many parts: %v, %s, error %d", ok, valueText(v), e)
	}
	if l, e := Unreachable(20, q, []Case{{whole, false}, {q, false}}); e != api.OK || !slices.Equal(l, []int{1}) {
		t.Errorf("Unreachable of many parts: %v, error %d", l, e)
	}
}

func count(p Pattern) int {
	n := len(p)
	for _, part := range p {
		for _, k := range part.Kids {
			n += count(k)
		}
	}
	return n
}

// TestLimit: a result of just 1000 parts, and one of one more.
func TestLimit(t *testing.T) {
	var q Pattern
	for i := range 15 {
		q = append(q, Part{Kids: []Pattern{span(i, i+1), span(0, 20), span(i, i+1)}}, Part{Kids: []Pattern{span(0, 20), span(i, i+1), span(i, i+1)}})
	}
	for i := range 11 {
		q = append(q, Part{Kids: []Pattern{span(i, i+1), span(i, i+1)}})
	}
	p := Pattern{{Kids: []Pattern{span(0, 20), span(0, 20)}}, {Kids: []Pattern{span(0, 20), span(0, 20), span(0, 20)}}}
	if got, e := Less(20, p, q); e != api.OK || count(got) != 1000 {
		t.Errorf("a result of 1000 parts: %d, error %d", count(got), e)
	}
	if got, e := Less(20, append(p, span(3, 4)...), q); e != api.ErrLarge || got != nil {
		t.Errorf("a result of 1001 parts: %d, error %d", count(got), e)
	}
}

// TestMemory: results have memory of their own, and arguments stay as they are.
func TestMemory(t *testing.T) {
	p := read("((0 1);(0);)(1)")
	n, _ := Normal(3, p)
	n[0].Leaves[0] = 9
	n[1].Kids[0][0].Leaves[0] = 9
	if again, _ := Normal(3, p); show(again) != "(1)((0 1);(0);)" || !reflect.DeepEqual(p, read("((0 1);(0);)(1)")) {
		t.Error("a pattern has changed")
	}
}
