package world_test

import (
	"slices"
	"strings"
	"testing"

	"hackamore/api"
	"hackamore/cap"
	"hackamore/samples"
	"hackamore/world"
)

type sight struct{ cell, cap int }

// model is another, plain way to the paths of a world.
type model struct {
	w *world.World
	s world.State
}

// seen returns all objects with the capabilities with which they are seen.
func (m model) seen(x api.Value, t api.Type, from int) map[sight]bool {
	all := make(map[sight]bool)
	add := func(x api.Value, t api.Type) {
		for s := range m.seen(x, t, from) {
			all[s] = true
		}
	}
	switch t.Kind {
	case api.TypeName:
		c := t.Cap
		if t.Mark == api.Aliased && c == api.Iso {
			c = api.Tag
		} else if t.Mark == api.Aliased && c == api.Trn {
			c = api.Box
		}
		if c, ok := cap.View(from, c); ok && x.Kind == api.ValObject && m.w.Is(x, t) {
			all[sight{int(x.Lo), c}] = true
		}
	case api.TypeBoth, api.TypeUnion:
		for _, a := range t.Args {
			add(x, a)
		}
	case api.TypeArrow:
		add(x, t.Args[1])
	case api.TypeTuple:
		for i, a := range t.Args {
			if len(x.Kids) == len(t.Args) {
				add(x.Kids[i], a)
			}
		}
	}
	if t.Kind == api.TypeUnion {
		for a := range all {
			for b := range all {
				if a.cell == b.cell && a != b && cap.Sub(a.cap, b.cap) {
					delete(all, a)
				}
			}
		}
	}
	return all
}

// elements are the element types of the Arrays that random states have.
func elements() map[string]string {
	return map[string]string{
		"Array[main.Cell ref]": "main.Cell ref", "Array[main.Cell iso]": "main.Cell iso", "Array[(main.Cell val | None val)]": "(main.Cell val | None val)",
		"Array[(main.Cell ref, (U32 val | main.Leaf box))]": "(main.Cell ref, (U32 val | main.Leaf box))", "Array[Array[main.Cell ref] val]": `"Array[main.Cell ref]" val`,
		"Array[(Array[main.Cell ref] val | None val)]": `("Array[main.Cell ref]" val | None val)`, "Array[main.Named box]": "main.Named box",
		"Array[(main.Named trn & main.Cell trn)]": "(main.Named trn & main.Cell trn)", "Array[(main.Cell ref, U32 val)]": "(main.Cell ref, U32 val)", "Array[String val]": "String val",
	}
}

// inside returns what is seen in an object.
func (m model) inside(cell, from int) map[sight]bool {
	all := make(map[sight]bool)
	c := m.s.Cells[cell]
	if from == api.Iso || from == api.Trn {
		from = api.Ref
	}
	for i, v := range c.Fields {
		var t api.Type
		if strings.HasPrefix(c.Type, "Array[") {
			text, ok := elements()[c.Type]
			if !ok {
				continue
			}
			t = ty(text)
		} else {
			t = entity(m.s.Program, c.Type).Fields[i].Type
		}
		for s := range m.seen(v, t, from) {
			all[s] = true
		}
	}
	return all
}

// paths returns all paths, found again and again until there are no more.
func (m model) paths() []world.Path {
	all := make(map[world.Path]bool)
	for i, a := range m.s.Actors {
		if a.Type == "" {
			continue
		}
		for j, v := range a.Fields {
			for s := range m.seen(v, entity(m.s.Program, a.Type).Fields[j].Type, api.Ref) {
				all[world.Path{Actor: i, Message: -1, Cell: s.cell, Cap: s.cap}] = true
			}
		}
		for j, x := range a.Mail {
			n, e := m.w.Method(a.Type, x.Name)
			for k, v := range x.Args {
				if e != api.OK || len(n.Params) != len(x.Args) {
					continue
				}
				for s := range m.seen(v, n.Params[k].Type, api.Ref) {
					all[world.Path{Actor: i, Message: j, Cell: s.cell, Cap: s.cap}] = true
				}
			}
		}
	}
	for before := -1; before != len(all); {
		before = len(all)
		more := make(map[world.Path]bool)
		for p := range all {
			if p.Cap == api.Tag {
				continue
			}
			for s := range m.inside(p.Cell, p.Cap) {
				more[world.Path{Actor: p.Actor, Message: p.Message, Cell: s.cell, Cap: s.cap}] = true
			}
		}
		for p := range more {
			all[p] = true
		}
	}
	var l []world.Path
	for p := range all {
		l = append(l, p)
	}
	slices.SortFunc(l, func(a, b world.Path) int {
		return slices.Compare([]int{a.Actor, a.Message, a.Cell, a.Cap}, []int{b.Actor, b.Message, b.Cell, b.Cap})
	})
	return l
}

// race returns the first two paths that must not be.
func race(l []world.Path) (world.Path, world.Path, bool) {
	for _, p := range l {
		for _, q := range l {
			far := p.Actor != q.Actor || p.Message != q.Message
			if far && p.Cell == q.Cell && (p.Cap == api.Iso || p.Cap == api.Trn || p.Cap == api.Ref) && q.Cap != api.Tag {
				return p, q, true
			}
		}
	}
	return world.Path{}, world.Path{}, false
}

// TestPathsByChance: Paths and Race agree with the plain way; Drop of what nothing has changes nothing.
func TestPathsByChance(t *testing.T) {
	m := samples.New(176)
	races, paths := 0, 0
	for range 600 {
		s := random(t, m)
		w, e := world.Load(s)
		if e != api.OK {
			t.Fatalf("Load: error %d", e)
		}
		got, want := w.Paths(), model{w, s}.paths()
		if !slices.Equal(got, want) {
			t.Fatalf("Paths: %v, not %v, of\n%s", got, want, w.Dump())
		}
		p, q, ok := w.Race()
		if a, b, found := race(want); p != a || q != b || ok != found {
			t.Fatalf("Race: %v, %v, %t, not %v, %v, %t", p, q, ok, a, b, found)
		}
		paths += len(got)
		if ok {
			races++
		}
		extra := made(t, w, 1, "main.Cell")
		set(t, w, extra, "r", object(len(w.State().Cells)-1))
		if !slices.Equal(w.Paths(), got) || w.Drop(int(extra.Lo)) != api.OK || !slices.Equal(w.Paths(), got) {
			t.Fatal("an object that nothing has changes paths")
		}
	}
	if races < 60 || races > 540 || paths < 3000 {
		t.Errorf("%d races, %d paths", races, paths)
	}
}

// held returns a world in which only one field, of the actor 1, has a value.
func held(t *testing.T, typ string, x func(w *world.World) api.Value) (*world.World, api.Value) {
	t.Helper()
	p := program(t)
	entity(p, "main.Main").Fields[0].Type = ty(typ)
	w, e := world.New(p, nil)
	if e != api.OK {
		t.Fatalf("New: error %d", e)
	}
	if _, e := w.Take(1); e != api.OK {
		t.Fatalf("Take: error %d", e)
	}
	v := x(w)
	set(t, w, actor(1), "c", v)
	return w, v
}

// TestSeen: what is seen in types of all kinds.
func TestSeen(t *testing.T) {
	for _, c := range []struct {
		typ  string
		want []int
	}{
		{"main.Cell iso", []int{1}}, {"main.Cell trn", []int{2}}, {"main.Cell ref", []int{3}}, {"main.Cell val", []int{4}}, {"main.Cell box", []int{5}}, {"main.Cell tag", []int{6}},
		{"main.Cell iso!", []int{6}}, {"main.Cell trn!", []int{5}}, {"main.Cell iso^", []int{1}}, {"main.Cell ref!", []int{3}}, {"main.Leaf ref", nil}, {"main.Named trn", []int{2}},
		{"Any box", []int{5}}, {"(main.Cell iso | None val)", []int{1}}, {"(main.Cell iso | main.Cell ref)", []int{3}}, {"(main.Cell iso | main.Named box | main.Cell trn)", []int{5}},
		{"(main.Cell ref | main.Cell val)", []int{3, 4}}, {"(main.Cell trn | (main.Cell ref | main.Cell val))", []int{3, 4}}, {"(main.Cell iso | main.Cell tag)", []int{6}},
		{"(main.Cell iso & main.Named ref)", []int{1, 3}}, {"(this -> main.Cell trn)", []int{2}}, {"(this ref -> main.Cell trn)", []int{2}}, {"this ref", nil}, {"$A ref", nil},
		{"((main.Cell iso & main.Named ref) | main.Cell trn)", []int{3}}, {"(main.Cell ref, None val)", nil}, {"main.Cell[U32 val] ref", nil},
	} {
		w, v := held(t, c.typ, func(w *world.World) api.Value { return made(t, w, 1, "main.Cell") })
		var want []world.Path
		for _, cap := range c.want {
			want = append(want, world.Path{Actor: 1, Message: -1, Cell: int(v.Lo), Cap: cap})
		}
		if got := w.Paths(); !slices.Equal(got, want) {
			t.Errorf("in %s: %v, not %v", c.typ, got, want)
		}
	}
	w, v := held(t, "((main.Cell iso, main.Leaf val) | (main.Cell ref, main.Cell ref) | (main.Cell tag, main.Leaf tag, U32 val))", func(w *world.World) api.Value {
		return tuple(made(t, w, 1, "main.Cell"), made(t, w, 1, "main.Leaf"))
	})
	want := []world.Path{{1, -1, int(v.Kids[0].Lo), api.Ref}, {1, -1, int(v.Kids[1].Lo), api.Val}}
	if got := w.Paths(); !slices.Equal(got, want) {
		t.Errorf("in tuples: %v, not %v", got, want)
	}
}

// TestOddTypes: in a type that is not well-formed nothing is seen.
func TestOddTypes(t *testing.T) {
	name := func(change func(*api.Type)) api.Type {
		n := ty("main.Cell ref")
		change(&n)
		return n
	}
	for i, typ := range []api.Type{
		{}, {Kind: 99}, {Kind: api.TypeArrow}, {Kind: api.TypeArrow, Args: []api.Type{ty("main.Cell ref")}}, {Kind: api.TypeUnion}, {Kind: api.TypeBoth}, {Kind: api.TypeTuple},
		name(func(n *api.Type) { n.Cap = 0 }), name(func(n *api.Type) { n.Cap = api.CapAny }), name(func(n *api.Type) { n.Mark = 3 }), name(func(n *api.Type) { n.Name = "" }),
		name(func(n *api.Type) { n.Args = []api.Type{{}} }), name(func(n *api.Type) { n.Name = long(301) }),
	} {
		p := program(t)
		e := entity(p, "main.Main")
		e.Fields[0].Type, e.Fields[1].Type, e.Fields[2].Type = typ, typ, ty("main.Cell box")
		if i == 12 {
			p = append(p, api.Entity{Kind: api.Class, Name: long(301)})
		}
		w, _ := world.New(p, nil)
		w.Take(1)
		v := made(t, w, 1, "main.Cell")
		if i == 12 {
			v = made(t, w, 1, long(301))
		}
		for _, f := range []string{"c", "w", "s"} {
			set(t, w, actor(1), f, v)
		}
		want := []world.Path{{1, -1, int(v.Lo), api.Box}}
		if i == 12 {
			want = nil
		}
		if got := w.Paths(); !slices.Equal(got, want) {
			t.Errorf("type %d: %v", i, got)
		}
	}
	p := program(t)
	entity(p, "String").Fields = []api.Field{{Name: "x", Type: ty("Any ref")}}
	w, _ := world.New(p, []string{"a"})
	if got := w.Paths(); len(got) != 3 {
		t.Errorf("of a String that has fields in the program: %v", got)
	}
}

// TestReached: what is reached further, by the capability of each object.
func TestReached(t *testing.T) {
	// The fields of a Cell: i iso, t trn, r ref, v val, b box, g tag.
	fields := []struct {
		name string
		cap  int
	}{{"i", api.Iso}, {"t", api.Trn}, {"r", api.Ref}, {"v", api.Val}, {"b", api.Box}, {"g", api.Tag}}
	for c := api.Iso; c <= api.Tag; c++ {
		name, _ := map[int]string{1: "iso", 2: "trn", 3: "ref", 4: "val", 5: "box", 6: "tag"}[c], 0
		cells := map[string]api.Value{}
		w, v := held(t, "main.Cell "+name, func(w *world.World) api.Value {
			v := made(t, w, 1, "main.Cell")
			for _, f := range fields {
				cells[f.name] = made(t, w, 1, "main.Cell")
				set(t, w, v, f.name, cells[f.name])
			}
			return v
		})
		want := []world.Path{{1, -1, int(v.Lo), c}}
		for _, f := range fields {
			from := c
			if c == api.Iso || c == api.Trn {
				from = api.Ref
			}
			if seen, ok := cap.View(from, f.cap); ok {
				want = append(want, world.Path{Actor: 1, Message: -1, Cell: int(cells[f.name].Lo), Cap: seen})
			}
		}
		if got := w.Paths(); !slices.Equal(got, want) {
			t.Errorf("from %s: %v, not %v", name, got, want)
		}
	}
	for typ, text := range elements() {
		w, v := held(t, `"`+typ+`" ref`, func(w *world.World) api.Value {
			inner := arrayOf(t, w, "Array[main.Cell ref]", made(t, w, 1, "main.Cell"))
			return arrayOf(t, w, typ, made(t, w, 1, "main.Cell"), inner, tuple(made(t, w, 1, "main.Cell"), made(t, w, 1, "main.Leaf")))
		})
		_ = v
		if got, want := w.Paths(), (model{w, w.State()}).paths(); !slices.Equal(got, want) {
			t.Errorf("elements of %s: %v, not %v", text, got, want)
		}
	}
	for _, typ := range []string{"Array[]", "Array[no type]", "Array[main.Cell]", "Array[main.Cell ref", "Array[main.Cell ref] ]"} {
		w, _ := held(t, `Any ref`, func(w *world.World) api.Value {
			if !strings.HasSuffix(typ, "]") {
				return made(t, w, 1, "main.Cell")
			}
			return arrayOf(t, w, typ, made(t, w, 1, "main.Cell"))
		})
		if got := w.Paths(); len(got) != 1 {
			t.Errorf("elements of %s: %v", typ, got)
		}
	}
}

// TestElementNames: element types have the names that reified programs give them.
func TestElementNames(t *testing.T) {
	const list = "Array[main.Cell ref]"
	for _, name := range []string{
		"Array[Array[main.Cell ref] ref]", "Array[(Array[main.Cell ref] ref | None val)]", "Array[(Any ref & Array[main.Cell ref] ref)]", "Array[(this -> Array[main.Cell ref] ref)]",
	} {
		w, v := held(t, "Any ref", func(w *world.World) api.Value {
			return arrayOf(t, w, name, arrayOf(t, w, list, made(t, w, 1, "main.Cell")))
		})
		n := int(v.Lo)
		want := []world.Path{{1, -1, n - 2, api.Ref}, {1, -1, n - 1, api.Ref}, {1, -1, n, api.Ref}}
		if got := w.Paths(); !slices.Equal(got, want) {
			t.Errorf("elements of %s: %v, not %v", name, got, want)
		}
	}
	two := "main.Map[main.Map[U8 val, U32 val] ref, (U8 val | None val)]"
	p := append(program(t), api.Entity{Kind: api.Class, Name: two, Cap: api.Ref})
	entity(p, "main.Main").Fields[0].Type = ty("Any ref")
	w, _ := world.New(p, nil)
	w.Take(1)
	v := made(t, w, 1, two)
	set(t, w, actor(1), "c", arrayOf(t, w, "Array["+two+" box, x y]", v))
	if got := w.Paths(); len(got) != 1 {
		t.Errorf("a name that is no type: %v", got)
	}
	set(t, w, actor(1), "c", arrayOf(t, w, "Array["+two+" box]", v))
	if got := w.Paths(); len(got) != 2 || got[0].Cap != api.Box {
		t.Errorf("a name with several arguments: %v", got)
	}
}

// TestMessages: what is reached from messages.
func TestMessages(t *testing.T) {
	w := begun(t)
	env, _ := w.Take(1)
	worker, _ := w.Spawn("main.Worker")
	cell := made(t, w, 1, "main.Cell")
	for _, m := range []api.Message{
		message(1, 2, "take", cell, none, one), message(1, 2, "take", cell, none), message(1, 2, "x", cell), message(1, 2, "deep"), message(1, 2, "take", none, cell, cell),
		message(1, 2, "other", cell), message(-1, 1, "create", env.Args[0]),
	} {
		if e := w.Send(m); e != api.OK {
			t.Fatalf("Send: error %d", e)
		}
	}
	n := int(cell.Lo)
	want := []world.Path{{1, 0, 0, api.Val}, {1, 0, 1, api.Val}, {2, 0, n, api.Iso}, {2, 4, n, api.Val}}
	if got := w.Paths(); !slices.Equal(got, want) {
		t.Errorf("Paths: %v, not %v", got, want)
	}
	if p, q, ok := w.Race(); !ok || p != want[2] || q != want[3] {
		t.Errorf("Race: %v, %v, %t", p, q, ok)
	}
	_ = worker
}

// TestRace: which capabilities of two actors race.
func TestRace(t *testing.T) {
	names := []string{"iso", "trn", "ref", "val", "box", "tag"}
	for a, first := range names {
		for b, second := range names {
			p := program(t)
			entity(p, "main.Main").Fields[0].Type = ty("main.Cell " + first)
			entity(p, "main.Worker").Fields[0].Type = ty("main.Cell " + second)
			entity(p, "main.Worker").Fields[1].Type = ty("main.Cell " + second)
			w, _ := world.New(p, nil)
			w.Take(1)
			worker, _ := w.Spawn("main.Worker")
			cell := made(t, w, 1, "main.Cell")
			set(t, w, worker, "c", cell)
			set(t, w, worker, "k", cell)
			if _, _, ok := w.Race(); ok {
				t.Errorf("an actor races with itself by %s", second)
			}
			set(t, w, actor(1), "c", cell)
			one, two := world.Path{Actor: 1, Message: -1, Cell: 2, Cap: a + 1}, world.Path{Actor: 2, Message: -1, Cell: 2, Cap: b + 1}
			writes := a < 3 && b < 5
			if !writes && b < 3 && a < 5 {
				one, two, writes = two, one, true
			}
			if !writes {
				one, two = world.Path{}, world.Path{}
			}
			if x, y, ok := w.Race(); ok != writes || x != one || y != two {
				t.Errorf("%s and %s: %v, %v, %t", first, second, x, y, ok)
			}
		}
	}
}

// TestPathLaws: from tag nothing is reached, from val only val and tag.
func TestPathLaws(t *testing.T) {
	m := samples.New(99)
	for range 200 {
		s := random(t, m)
		for i := range s.Actors {
			s.Actors[i].Mail = nil
		}
		typ := entity(s.Program, "main.Main").Fields
		keep := m.Below(2)
		typ[0].Type = ty([]string{"Any tag", "Any val"}[keep])
		typ[1].Type, typ[2].Type = ty("Any tag"), ty("Any tag")
		w, e := world.Load(s)
		if e != api.OK {
			t.Fatalf("Load: error %d", e)
		}
		count := 0
		for _, p := range w.Paths() {
			if p.Actor != 1 {
				continue
			}
			count++
			if p.Cap != api.Tag && (keep == 0 || p.Cap != api.Val) {
				t.Fatalf("%v of %s", p, w.Dump())
			}
		}
		if keep == 0 && count > 3 {
			t.Fatalf("%d objects are reached from tags", count)
		}
	}
}
