package colour_test

import (
	"reflect"
	"slices"
	"testing"

	"hackamore/api"
	"hackamore/colour"
	"hackamore/samples"
)

// alike compares two values of any type; nil and empty lists are equal.
func alike(a, b any) bool { return equal(reflect.ValueOf(a), reflect.ValueOf(b)) }

func equal(a, b reflect.Value) bool {
	switch a.Kind() {
	case reflect.Slice:
		if a.Len() != b.Len() {
			return false
		}
		for i := range a.Len() {
			if !equal(a.Index(i), b.Index(i)) {
				return false
			}
		}
		return true
	case reflect.Struct:
		for i := range a.NumField() {
			if !equal(a.Field(i), b.Field(i)) {
				return false
			}
		}
		return true
	}
	return a.Equal(b)
}

// world returns a world whose classes understand these selectors, by the only method.
func world(classes ...[]int) colour.World {
	w := colour.World{Bodies: make([]colour.Body, 1)}
	for _, l := range classes {
		w.Classes = append(w.Classes, entries(l...))
	}
	return w
}

func entries(l ...int) []colour.Entry {
	var class []colour.Entry
	for _, s := range l {
		class = append(class, colour.Entry{Selector: s})
	}
	return class
}

// class returns a class made by numbers, with up to so many selectors below a limit.
func class(m *samples.Maker, most, limit, methods int) []colour.Entry {
	var l []colour.Entry
	for range m.Below(most + 1) {
		l = append(l, colour.Entry{Selector: m.Below(limit), Method: m.Below(methods)})
	}
	slices.SortFunc(l, func(a, b colour.Entry) int { return a.Selector - b.Selector })
	return slices.CompactFunc(l, func(a, b colour.Entry) bool { return a.Selector == b.Selector })
}

// made returns a world made by numbers, with up to so many classes and selectors.
func made(m *samples.Maker, classes, selectors int) colour.World {
	w := colour.World{Bodies: make([]colour.Body, 1+m.Below(12))}
	n := len(w.Bodies)
	some := func(limit int) []int {
		var l []int
		for range m.Below(3) {
			l = append(l, m.Below(limit))
		}
		return l
	}
	for range 1 + m.Below(classes) {
		w.Classes = append(w.Classes, class(m, 5, selectors, n))
	}
	for i := range w.Bodies {
		w.Bodies[i] = colour.Body{Selectors: some(selectors), Methods: some(n), Classes: some(len(w.Classes))}
	}
	w.Roots = some(n)
	return w
}

// TestExamples: those of the chapter.
func TestExamples(t *testing.T) {
	w := world([]int{0, 1}, []int{1, 2})
	if l, e := colour.Conflicts(w); e != api.OK || !alike(l, [][2]int{{0, 1}, {1, 2}}) {
		t.Errorf("conflicts %v", l)
	}
	if n, e := colour.Least(w); e != api.OK || n != 2 {
		t.Errorf("the least number %d", n)
	}
	way := []int{0, 1, 0}
	if e := colour.CheckColours(w, way); e != api.OK {
		t.Errorf("0 1 0: error %d", e)
	}
	none := colour.Slot{Selector: -1, Method: -1}
	for i, want := range [][]colour.Slot{{{Selector: 0}, {Selector: 1}}, {{Selector: 2}, {Selector: 1}}} {
		if l, e := colour.Table(w, way, i); e != api.OK || !alike(l, want) {
			t.Errorf("the table %d: %v", i, l)
		}
	}
	vector, offsets, e := colour.Pack(w, way)
	if want := []colour.Slot{{Selector: 0}, {Selector: 1}, {Selector: 2}, {Selector: 1}}; e != api.OK || !alike(offsets, []int{0, 2}) || !alike(vector, want) {
		t.Errorf("packed: %v %v", vector, offsets)
	}
	next, changed, e := colour.Grow(w, way, entries(0, 2))
	if e != api.OK || !slices.Equal(next, []int{0, 1, 2}) || !slices.Equal(changed, []int{2}) {
		t.Errorf("grown: %v %v, error %d", next, changed, e)
	}
	if n := colour.Lookup([]colour.Slot{none, {Selector: 3, Method: 7}}, []int{1}, []int{-1, 0, 0, 0}, 0, 3); n != 7 {
		t.Errorf("Lookup: %d", n)
	}
}

// TestErrors: of worlds, in their order; all functions with a world return them.
func TestErrors(t *testing.T) {
	body := func(b colour.Body) colour.World {
		return colour.World{Bodies: []colour.Body{b}, Classes: make([][]colour.Entry, 2)}
	}
	bodies := func(n int, classes ...[]colour.Entry) colour.World {
		return colour.World{Bodies: make([]colour.Body, n), Classes: classes}
	}
	long := func(n int) []colour.Entry {
		var l []int
		for i := range n {
			l = append(l, i)
		}
		return entries(l...)
	}
	odd := []colour.Entry{{Selector: 500}}
	large := bodies(1, odd)
	large.Roots = make([]int, 65)
	for i, c := range []struct {
		w    colour.World
		want api.Errno
	}{
		{colour.World{}, api.OK}, {bodies(0, make([][]colour.Entry, 200)...), api.OK}, {bodies(0, make([][]colour.Entry, 201)...), api.ErrSize}, {bodies(500), api.OK}, {bodies(501), api.ErrSize}, {large, api.ErrSize}, {bodies(1, long(100)), api.OK}, {bodies(1, long(101)), api.ErrSize},
		{bodies(1, odd, long(101)), api.ErrSize}, {body(colour.Body{Selectors: make([]int, 100), Methods: make([]int, 100), Classes: make([]int, 100)}), api.OK}, {body(colour.Body{Selectors: make([]int, 101)}), api.ErrSize}, {body(colour.Body{Methods: make([]int, 101)}), api.ErrSize},
		{body(colour.Body{Classes: make([]int, 101)}), api.ErrSize}, {bodies(1, odd), api.ErrRange}, {bodies(1, entries(-1)), api.ErrRange}, {bodies(1, entries(499)), api.OK}, {bodies(1, []colour.Entry{{Method: 1}}), api.ErrRange}, {bodies(1, []colour.Entry{{Method: -1}}), api.ErrRange},
		{bodies(1, entries(1, 1)), api.ErrOrder}, {bodies(1, entries(2, 1)), api.ErrOrder}, {bodies(1, entries(2, 1), odd), api.ErrOrder}, {bodies(1, entries(2, 500)), api.ErrRange}, {bodies(1, entries(2, -1)), api.ErrRange}, {bodies(1, entries(2, 1, 500)), api.ErrOrder},
		{body(colour.Body{Selectors: []int{499}, Methods: []int{0}, Classes: []int{1}}), api.OK}, {body(colour.Body{Selectors: []int{500}}), api.ErrRange}, {body(colour.Body{Selectors: []int{-1}}), api.ErrRange}, {body(colour.Body{Methods: []int{1}}), api.ErrRange}, {body(colour.Body{Methods: []int{-1}}), api.ErrRange},
		{body(colour.Body{Classes: []int{2}}), api.ErrRange}, {body(colour.Body{Classes: []int{-1}}), api.ErrRange}, {colour.World{Bodies: make([]colour.Body, 1), Roots: make([]int, 64)}, api.OK}, {colour.World{Roots: []int{0}}, api.ErrRange}, {colour.World{Bodies: make([]colour.Body, 1), Roots: []int{-1}}, api.ErrRange},
	} {
		_, _, _, e1 := colour.Reach(c.w)
		_, e2 := colour.Conflicts(c.w)
		colours, e3 := colour.Colours(c.w)
		if e := colour.Check(c.w); e != c.want || e1 != e || e2 != e || e3 != e {
			t.Errorf("%d: errors %d, %d, %d, %d, not %d", i, e, e1, e2, e3, c.want)
		}
		if c.want == api.OK {
			continue
		}
		_, e4 := colour.Least(c.w)
		e5 := colour.CheckColours(c.w, nil)
		_, e6 := colour.Table(c.w, nil, -1)
		_, _, e7 := colour.Pack(c.w, []int{9})
		_, _, e8 := colour.Grow(c.w, []int{9}, odd)
		if !alike([]api.Errno{e4, e5, e6, e7, e8}, slices.Repeat([]api.Errno{c.want}, 5)) || len(colours) > 0 {
			t.Errorf("%d: errors %d, %d, %d, %d, %d", i, e4, e5, e6, e7, e8)
		}
	}
}

// TestColourErrors: of colours.
func TestColourErrors(t *testing.T) {
	w := world([]int{0, 3}, []int{3, 4})
	for i, c := range []struct {
		colours []int
		want    api.Errno
	}{
		{[]int{0, -1, -1, 1, 0}, api.OK}, {[]int{0, -1, -1, 499, 0}, api.OK}, {nil, api.ErrSize}, {[]int{0, -1, -1, 1}, api.ErrSize}, {[]int{0, -1, -1, 1, 0, -1}, api.ErrSize}, {[]int{0, 0, -1, 1, 0}, api.ErrRange}, {[]int{-1, -1, -1, 1, 0}, api.ErrRange},
		{[]int{0, -2, -1, 1, 0}, api.ErrRange}, {[]int{0, 1000, -1, 1, 0}, api.ErrRange}, {[]int{0, -1, -1, 500, 0}, api.ErrRange}, {[]int{0, -1, -1, -2, 0}, api.ErrRange}, {[]int{0, -1, -1, 0, 500}, api.ErrRange}, {[]int{0, -1, -1, 0, 1}, colour.ErrClash}, {[]int{1, -1, -1, 0, 0}, colour.ErrClash},
	} {
		_, e1 := colour.Table(w, c.colours, 0)
		vector, offsets, e2 := colour.Pack(w, c.colours)
		next, changed, e3 := colour.Grow(w, c.colours, nil)
		if e := colour.CheckColours(w, c.colours); e != c.want || e1 != e || e2 != e || e3 != e {
			t.Errorf("%d: errors %d, %d, %d, %d, not %d", i, e, e1, e2, e3, c.want)
		}
		if c.want != api.OK && len(vector)+len(offsets)+len(next)+len(changed) > 0 {
			t.Errorf("%d: a result with an error", i)
		}
	}
	if e := colour.CheckColours(world(nil), nil); e != api.OK {
		t.Errorf("no selectors: error %d", e)
	}
	for _, n := range []int{-1, 2, 1 << 40} {
		if l, e := colour.Table(w, []int{0, -1, -1, 1, 0}, n); e != api.ErrNone || len(l) > 0 {
			t.Errorf("the class %d: error %d", n, e)
		}
	}
	if l, e := colour.Table(world(nil), nil, 0); e != api.OK || len(l) > 0 {
		t.Errorf("a class without entries: %v", l)
	}
	all := world()
	for range 200 {
		all.Classes = append(all.Classes, nil)
	}
	for i, c := range []struct {
		w     colour.World
		class []colour.Entry
		want  api.Errno
	}{{all, nil, api.ErrSize}, {world(), entries(500), api.ErrRange}, {world(), entries(1, 0), api.ErrOrder}, {world(), []colour.Entry{{Method: 1}}, api.ErrRange}, {world(), nil, api.OK}} {
		if next, changed, e := colour.Grow(c.w, nil, c.class); e != c.want || len(next)+len(changed) > 0 {
			t.Errorf("Grow %d: error %d", i, e)
		}
	}
}

// understood returns the method by which a class understands a selector.
func understood(w colour.World, class, selector int) int {
	for _, x := range w.Classes[class] {
		if x.Selector == selector {
			return x.Method
		}
	}
	return -1
}

// TestReach: what is reached is the least that is closed (P23.2).
func TestReach(t *testing.T) {
	m := samples.New(231)
	sum := 0
	for range 1500 {
		w := made(m, 6, 8)
		methods, classes, selectors, e := colour.Reach(w)
		// In a plain way: again and again all of it.
		var is [3][500]bool
		for _, r := range w.Roots {
			is[0][r] = true
		}
		for range 40 {
			for i, b := range w.Bodies {
				if !is[0][i] {
					continue
				}
				for k, l := range [][]int{b.Methods, b.Classes, b.Selectors} {
					for _, x := range l {
						is[k][x] = true
					}
				}
			}
			for c := range w.Classes {
				for s := range 8 {
					if n := understood(w, c, s); n >= 0 && is[1][c] && is[2][s] {
						is[0][n] = true
					}
				}
			}
		}
		var want [3][]int
		for k := range is {
			for i, yes := range is[k] {
				if yes {
					want[k] = append(want[k], i)
				}
			}
		}
		if e != api.OK || !alike(methods, want[0]) || !alike(classes, want[1]) || !alike(selectors, want[2]) {
			t.Fatalf("%v: %v %v %v, not %v", w, methods, classes, selectors, want)
		}
		sum += len(methods)
		w.Roots = append(w.Roots, m.Below(len(w.Bodies)))
		if more, _, _, _ := colour.Reach(w); slices.ContainsFunc(methods, func(n int) bool { return !slices.Contains(more, n) }) {
			t.Fatal("with more roots less is reached")
		}
	}
	if sum < 1000 {
		t.Errorf("%d methods are reached", sum)
	}
}

// conflict reports in a plain way whether two selectors conflict.
func conflict(w colour.World, a, b int) bool {
	for c := range w.Classes {
		if a != b && understood(w, c, a) >= 0 && understood(w, c, b) >= 0 {
			return true
		}
	}
	return false
}

// selectors returns those that a class understands.
func selectors(w colour.World) []int {
	var l []int
	for _, c := range w.Classes {
		for _, x := range c {
			l = append(l, x.Selector)
		}
	}
	slices.Sort(l)
	return slices.Compact(l)
}

// TestColours: they are right, not too many, and all used (P23.3).
func TestColours(t *testing.T) {
	m := samples.New(232)
	for range 800 {
		w := made(m, 12, 1+m.Below(40))
		pairs, e := colour.Conflicts(w)
		all := selectors(w)
		var want [][2]int
		most := 0
		for _, a := range all {
			n := 0
			for _, b := range all {
				if conflict(w, a, b) {
					n++
					if a < b {
						want = append(want, [2]int{a, b})
					}
				}
			}
			most = max(most, n)
		}
		if e != api.OK || !alike(pairs, want) {
			t.Fatalf("conflicts %v, not %v", pairs, want)
		}
		l, e := colour.Colours(w)
		if e != api.OK || colour.CheckColours(w, l) != api.OK {
			t.Fatalf("colours %v, error %d", l, e)
		}
		used := slices.Sorted(slices.Values(l))
		used = slices.DeleteFunc(slices.Compact(used), func(n int) bool { return n < 0 })
		for i, n := range used {
			if i != n || n > most {
				t.Fatalf("colours %v, at most %d conflict with one", l, most)
			}
		}
		for _, c := range w.Classes {
			if len(c) > len(used) {
				t.Fatalf("%d colours for a class with %d", len(used), len(c))
			}
		}
		if n, e := colour.Least(w); e == api.OK && n > len(used) || (e == api.ErrFull) != (len(all) > 12) {
			t.Fatalf("the least number %d of %d, error %d", n, len(used), e)
		}
	}
}

// TestLeast: by trying all colours; the order of classes plays no part, and more of them need no less (P23.3).
func TestLeast(t *testing.T) {
	m := samples.New(233)
	for range 400 {
		w := made(m, 6, 7)
		all := selectors(w)
		want := 0
		for !colourable(w, all, want) {
			want++
		}
		n, e := colour.Least(w)
		if e != api.OK || n != want {
			t.Fatalf("%v: %d, not %d, error %d", w.Classes, n, want, e)
		}
		slices.Reverse(w.Classes)
		if turned, _ := colour.Least(w); turned != n {
			t.Fatalf("%d in another order", turned)
		}
		w.Classes = append(w.Classes, class(m, 4, 7, 1))
		if more, _ := colour.Least(w); more < n {
			t.Fatalf("%d with one more", more)
		}
	}
	circle := world()
	for i := range 11 {
		circle.Classes = append(circle.Classes, entries(min(i, (i+1)%11), max(i, (i+1)%11)))
	}
	if n, e := colour.Least(circle); e != api.OK || n != 3 {
		t.Errorf("a circle of 11: %d", n)
	}
	full := world([]int{0, 1, 2, 3, 4, 5, 6, 7, 8, 9, 10, 499})
	if n, e := colour.Least(full); e != api.OK || n != 12 {
		t.Errorf("12 selectors: %d, error %d", n, e)
	}
	if n, e := colour.Least(world([]int{0, 1, 2, 3, 4, 5, 6}, []int{7, 8, 9, 10, 11, 12})); e != api.ErrFull || n != 0 {
		t.Errorf("13 selectors: %d, error %d", n, e)
	}
}

// colourable reports whether so many colours are enough, by trying all of them.
func colourable(w colour.World, all []int, n int) bool {
	colours := map[int]int{}
	var try func(i int) bool
	try = func(i int) bool {
		if i == len(all) {
			return true
		}
		for c := range n {
			clash := slices.ContainsFunc(all[:i], func(s int) bool { return colours[s] == c && conflict(w, s, all[i]) })
			colours[all[i]] = c
			if !clash && try(i+1) {
				return true
			}
		}
		return false
	}
	return try(0)
}

// TestGrow: in a plain way (P23.5).
func TestGrow(t *testing.T) {
	m := samples.New(234)
	changes := 0
	for range 2000 {
		w := made(m, 8, 10)
		colours, _ := colour.Colours(w)
		for s := range colours {
			// Other colours are as good, as long as they are right.
			if other := slices.Clone(colours); colours[s] >= 0 && m.Below(3) == 0 {
				other[s] = m.Below(12)
				if colour.CheckColours(w, other) == api.OK {
					colours = other
				}
			}
		}
		more := class(m, 6, 12, 1)
		greater := w
		greater.Classes = append(slices.Clone(w.Classes), more)
		want := slices.Clone(colours)
		for l := selectors(greater); len(l) > 0 && len(want) <= l[len(l)-1]; {
			want = append(want, -1)
		}
		var wantChanged []int
		for i, x := range more {
			s := x.Selector
			if want[s] >= 0 {
				if !slices.ContainsFunc(more[:i], func(y colour.Entry) bool { return want[y.Selector] == want[s] }) {
					continue
				}
				wantChanged = append(wantChanged, s)
			}
			c := 0
			for isTaken(greater, want, s, c) {
				c++
			}
			want[s] = c
		}
		next, changed, e := colour.Grow(w, colours, more)
		if e != api.OK || !alike(next, want) || !alike(changed, wantChanged) {
			t.Fatalf("%v, %v, %v: %v %v, not %v %v", w.Classes, colours, more, next, changed, want, wantChanged)
		}
		if e := colour.CheckColours(greater, next); e != api.OK {
			t.Fatalf("grown colours: error %d", e)
		}
		for s, c := range colours {
			if c >= 0 && next[s] != c && !slices.Contains(changed, s) {
				t.Fatalf("%d has another colour", s)
			}
		}
		changes += len(changed)
	}
	if changes < 200 {
		t.Errorf("%d changes", changes)
	}
}

// isTaken reports whether a selector that conflicts with one has a colour.
func isTaken(w colour.World, colours []int, selector, c int) bool {
	for s, x := range colours {
		if x == c && conflict(w, s, selector) {
			return true
		}
	}
	return false
}
