package colour_test

import (
	"slices"
	"strconv"
	"strings"
	"testing"

	"hackamore/api"
	"hackamore/colour"
	"hackamore/graphs"
	"hackamore/samples"
	"hackamore/ssa"
)

// TestPack: in a plain way; Lookup finds the method of each entry, and nothing else (P23.4).
func TestPack(t *testing.T) {
	m := samples.New(235)
	for range 800 {
		w := made(m, 10, 1+m.Below(14))
		colours, _ := colour.Colours(w)
		vector, offsets, e := colour.Pack(w, colours)
		if e != api.OK || len(offsets) != len(w.Classes) {
			t.Fatalf("error %d", e)
		}
		taken := map[int]colour.Entry{}
		end := 0
		for i, c := range w.Classes {
			l, e := colour.Table(w, colours, i)
			checkTable(t, c, colours, l)
			want := 0
			for slices.Contains(offsets[:i], want) || slices.ContainsFunc(c, func(x colour.Entry) bool { _, ok := taken[want+colours[x.Selector]]; return ok }) {
				want++
			}
			if e != api.OK || offsets[i] != want {
				t.Fatalf("the offset %d, not %d", offsets[i], want)
			}
			for _, x := range c {
				taken[want+colours[x.Selector]] = x
			}
			end = max(end, want+len(l))
		}
		if len(vector) != end {
			t.Fatalf("the vector has %d places, not %d", len(vector), end)
		}
		for i, s := range vector {
			x, ok := taken[i]
			if ok && s != colour.Slot(x) || !ok && s != (colour.Slot{Selector: -1, Method: -1}) {
				t.Fatalf("the place %d: %v, not %v", i, s, x)
			}
		}
		for c := range w.Classes {
			for s := range 20 {
				if n := colour.Lookup(vector, offsets, colours, c, s); n != understood(w, c, s) {
					t.Fatalf("Lookup of %d and %d: %d, not %d", c, s, n, understood(w, c, s))
				}
			}
		}
	}
}

// checkTable asks for the table of a class.
func checkTable(t *testing.T, c []colour.Entry, colours []int, l []colour.Slot) {
	t.Helper()
	var want []colour.Slot
	for _, x := range c {
		for len(want) <= colours[x.Selector] {
			want = append(want, colour.Slot{Selector: -1, Method: -1})
		}
		want[colours[x.Selector]] = colour.Slot(x)
	}
	if !alike(l, want) {
		t.Fatalf("the table %v, not %v", l, want)
	}
}

// TestEmptyClasses: classes without entries have offsets, too.
func TestEmptyClasses(t *testing.T) {
	vector, offsets, e := colour.Pack(world(nil, []int{0}, nil, nil), []int{0})
	if want := []colour.Slot{{Selector: -1, Method: -1}, {}, {Selector: -1, Method: -1}}; e != api.OK || !slices.Equal(offsets, []int{0, 1, 2, 3}) || !alike(vector, want) {
		t.Errorf("%v %v, error %d", vector, offsets, e)
	}
}

// TestLookup: of any lists.
func TestLookup(t *testing.T) {
	vector := []colour.Slot{{Selector: 2, Method: 5}, {Selector: -1, Method: -1}, {Selector: 0, Method: 6}, {Selector: 1, Method: -7}}
	offsets, colours := []int{0, 2, -1, 1<<63 - 1}, []int{0, 1, 0, -1, -1 << 63, 1<<63 - 1}
	for i, c := range []struct{ class, selector, want int }{
		{0, 2, 5}, {0, 0, -1}, {1, 0, 6}, {1, 1, -7}, {1, 2, -1}, {2, 1, -1}, {2, 0, -1}, {2, 2, -1}, {0, 3, -1}, {0, 4, -1}, {0, 5, -1}, {3, 0, -1}, {3, 1, -1}, {3, 5, -1}, {0, 6, -1}, {4, 0, -1}, {-1, 0, -1}, {0, -1, -1}, {1 << 62, 1 << 62, -1},
	} {
		if n := colour.Lookup(vector, offsets, colours, c.class, c.selector); n != c.want {
			t.Errorf("%d: %d, not %d", i, n, c.want)
		}
	}
	if n := colour.Lookup([]colour.Slot{{Selector: 0, Method: 3}}, []int{-1}, []int{1}, 0, 0); n != 3 {
		t.Errorf("an offset below 0: %d", n)
	}
	if n := colour.Lookup(nil, nil, nil, 0, 0); n != -1 {
		t.Errorf("empty lists: %d", n)
	}
}

func entity(kind int, name string) api.Entity { return api.Entity{Kind: kind, Name: name} }

// TestOf: what is in a program.
func TestOf(t *testing.T) {
	call := func(result int, s string) ssa.Ins { return graphs.Text(ssa.Call, result, s, 0) }
	spawned := graphs.Text(ssa.Spawn, 5, "create")
	spawned.Name = "W"
	lost := graphs.Text(ssa.Spawn, 6, "none")
	lost.Name = "none"
	unit := graphs.Typed(graphs.Const(7, 1), graphs.Name("P"))
	tuple := graphs.Typed(graphs.Const(8, 1), api.Type{Kind: api.TypeTuple, Name: "P"})
	typed := graphs.Typed(graphs.Text(ssa.Text, 9, "x"), graphs.Name("A"))
	native := graphs.Typed(graphs.Text(ssa.Native, 10, "U8.add"), graphs.Name("A.b"))
	item := graphs.Typed(graphs.Item(13, 0, 8), graphs.Name("T"))
	p := ssa.Program{
		Entities: []api.Entity{entity(api.Trait, "T"), entity(api.Class, "A"), entity(api.Primitive, "P"), entity(api.Actor, "W"), entity(api.Interface, "I"), entity(api.Class, "A.b"), entity(api.Class, "A"), entity(api.Class, "String")},
		Funcs: []ssa.Func{
			graphs.Function("A.m", 1, graphs.Block(graphs.Try(call(1, "z"), 1, 2), call(2, "m"), call(3, "m"), graphs.Text(ssa.Send, 4, "s", 0)), graphs.Block(graphs.Return(0)), graphs.Block(graphs.Return(0))),
			graphs.Function("A.b.c", 1, graphs.Block(graphs.Try(graphs.Text(ssa.Direct, 2, "A.m", 0), 1, 2), graphs.Text(ssa.Direct, 1, "A.m", 0), graphs.Text(ssa.Direct, 3, "W.create"), call(4, "c")), graphs.Block(graphs.Return(0)), graphs.Block(graphs.Return(0))),
			graphs.Function("W.create", 0, graphs.Block(graphs.Return(7), spawned, lost, unit, tuple, typed, native, graphs.Text(ssa.Make, 11, "A"), graphs.Text(ssa.Make, 12, "none"), item)),
			graphs.Function("T.q", 0, graphs.Block(graphs.Stuck())),
			graphs.Function("P.", 0, graphs.Block(graphs.Stuck())),
			graphs.Function("String.m", 0, graphs.Block(graphs.Stuck())),
		},
	}
	w, classes, selectors, methods, e := colour.Of(p, []string{"W.create", "T.q", "W.create"})
	if e != api.OK || !slices.Equal(classes, strings.Fields("A P W A.b A String")) || !slices.Equal(methods, strings.Fields("A.m A.b.c W.create T.q P. String.m")) {
		t.Fatalf("error %d, classes %v, methods %v", e, classes, methods)
	}
	if want := []string{"", "b.c", "c", "create", "m", "s", "z"}; !slices.Equal(selectors, want) {
		t.Errorf("selectors %q", selectors)
	}
	want := colour.World{
		Classes: [][]colour.Entry{{{Selector: 1, Method: 1}, {Selector: 4, Method: 0}}, {{Selector: 0, Method: 4}}, {{Selector: 3, Method: 2}}, {{Selector: 2, Method: 1}}, nil, {{Selector: 4, Method: 5}}},
		Bodies:  []colour.Body{{Selectors: []int{4, 5, 6}}, {Selectors: []int{2}, Methods: []int{0, 2}}, {Methods: []int{2}, Classes: []int{0, 1, 2, 3, 5}}, {}, {}, {}},
		Roots:   []int{2, 3, 2},
	}
	if !alike(w, want) {
		t.Errorf("the world %v, not %v", w, want)
	}
}

// TestOfErrors: in their order.
func TestOfErrors(t *testing.T) {
	many := func(n int) ssa.Program {
		p := ssa.Program{Funcs: []ssa.Func{graphs.Function("f", 1, graphs.Block(graphs.Return(0)))}}
		for i := range n {
			p.Funcs = append(p.Funcs, graphs.Function("f"+strconv.Itoa(i/50), 1, graphs.Block(graphs.Return(0))))
			p.Funcs[len(p.Funcs)-1].Name += "x" + strconv.Itoa(i)
		}
		return p
	}
	calling := func(n int) ssa.Program {
		p := many(n / 50)
		for i := range n {
			f := &p.Funcs[i/50]
			f.Blocks[0].Ins = append(f.Blocks[0].Ins, graphs.Text(ssa.Call, 1+i, "m"+strconv.Itoa(i), 0))
		}
		return p
	}
	crowded := calling(0)
	for i := range 101 {
		f := &crowded.Funcs[0]
		f.Blocks[0].Ins = append(f.Blocks[0].Ins, graphs.Text(ssa.Call, 1+i, "m"+strconv.Itoa(i), 0))
	}
	bad := calling(501)
	bad.Funcs[0].Blocks[0].End = graphs.Return(9999)
	for i, c := range []struct {
		p     ssa.Program
		roots []string
		want  api.Errno
	}{
		{ssa.Program{}, nil, api.OK}, {bad, []string{"none"}, ssa.ErrUse}, {calling(500), []string{"f"}, api.OK}, {calling(501), []string{"none"}, api.ErrSize}, {calling(500), []string{"f", "none"}, api.ErrNone}, {crowded, []string{"f"}, api.ErrSize}, {crowded, []string{"none"}, api.ErrNone},
		{many(3), slices.Repeat([]string{"f"}, 64), api.OK}, {many(3), slices.Repeat([]string{"f"}, 65), api.ErrSize},
	} {
		w, classes, selectors, methods, e := colour.Of(c.p, c.roots)
		if e != c.want || e != api.OK && (!alike(w, colour.World{}) || len(classes)+len(selectors)+len(methods) > 0) {
			t.Errorf("%d: error %d, not %d", i, e, c.want)
		}
	}
}

// TestOfLaws: of programs made by numbers: each class understands what its functions say.
func TestOfLaws(t *testing.T) {
	for seed := range uint64(60) {
		p := graphs.New(seed+2350, 5, false).Program(5)
		w, classes, selectors, methods, e := colour.Of(p, []string{p.Funcs[0].Name})
		if e != api.OK || colour.Check(w) != api.OK || !slices.IsSorted(selectors) {
			t.Fatalf("%d: error %d", seed, e)
		}
		for i, class := range classes {
			for j, selector := range selectors {
				want := slices.Index(methods, class+"."+selector)
				if n := understood(w, i, j); n != want {
					t.Fatalf("%s.%s: %d, not %d", class, selector, n, want)
				}
			}
		}
	}
}
