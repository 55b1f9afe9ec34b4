package world_test

import (
	"slices"
	"strconv"
	"testing"

	"hackamore/api"
	"hackamore/world"
)

// TestBeginning: the example of the chapter, and what else there is at the beginning.
func TestBeginning(t *testing.T) {
	w := begun(t, "a", "b")
	s := w.State()
	p := program(t)
	cells := []api.Cell{
		{Type: "String", Owner: 1, Bytes: "a"}, {Type: "String", Owner: 1, Bytes: "b"},
		{Type: "Array[String val]", Owner: 1, Fields: []api.Value{object(0), object(1)}},
		{Type: "Env", Owner: 1, Fields: []api.Value{actor(0), object(2), unit("AmbientAuth")}},
	}
	mail := []api.Message{{From: -1, To: 1, Name: "create", Args: []api.Value{object(3)}}}
	actors := []world.Actor{{Type: "Out"}, {Type: "main.Main", Fields: make([]api.Value, 3), Mail: mail}}
	if !alike(s, world.State{Program: p, Actors: actors, Cells: cells}) {
		t.Errorf("the beginning: %v", s)
	}
	if !slices.Equal(w.Ready(), []int{1}) {
		t.Errorf("Ready: %v", w.Ready())
	}
	const want = `Env#0{out=@0, args=Array[String val]#1{"a"#2, "b"#3}, root=AmbientAuth}`
	if got, e := w.Show(object(3)); e != api.OK || got != want {
		t.Errorf("Show: %s, error %d", got, e)
	}
	root := entity(p, "AmbientAuth")
	root.Kind = api.Class
	for _, name := range []string{"AmbientAuth", "Other"} {
		root.Name = name
		w, e := world.New(p, nil)
		if e != api.OK || w.State().Cells[1].Fields[2].Kind != api.ValNone {
			t.Errorf("without the primitive AmbientAuth: error %d", e)
		}
	}
}

// TestNewErrors: of programs and of arguments, in their order.
func TestNewErrors(t *testing.T) {
	many := func(n int) []api.Entity {
		p := program(t)
		for i := len(p); i < n; i++ {
			p = append(p, api.Entity{Kind: api.Class, Name: "C" + strconv.Itoa(i)})
		}
		return p
	}
	change := func(do func(p []api.Entity)) []api.Entity {
		p := program(t)
		do(p)
		return p
	}
	method := func(do func(m *api.Method)) []api.Entity {
		return change(func(p []api.Entity) {
			m := entity(p, "main.Main").Methods
			i := slices.IndexFunc(m, func(m api.Method) bool { return m.Name == "create" })
			do(&m[i])
		})
	}
	twice := func(p []api.Entity) []api.Entity { return append(p, api.Entity{Kind: api.Class, Name: "Out"}) }
	for i, c := range []struct {
		p    []api.Entity
		want api.Errno
	}{
		{program(t), api.OK}, {many(200), api.OK}, {many(201), api.ErrSize}, {twice(many(200)), api.ErrSize}, {twice(program(t)), api.ErrTwice},
		{[]api.Entity{{}, {}}, api.ErrTwice}, {nil, world.ErrMethod},
		{change(func(p []api.Entity) { entity(p, "main.Main").Kind = api.Class }), world.ErrMethod},
		{change(func(p []api.Entity) { entity(p, "main.Main").Name = "Main" }), world.ErrMethod},
		{change(func(p []api.Entity) { entity(p, "main.Main").Methods = nil }), world.ErrMethod},
		{method(func(m *api.Method) { m.Name = "make" }), world.ErrMethod},
		{method(func(m *api.Method) { m.Kind = api.Be }), world.ErrMethod},
		{method(func(m *api.Method) { m.Params = nil }), world.ErrMethod},
		{method(func(m *api.Method) { m.Params = append(m.Params, m.Params[0]) }), world.ErrMethod},
		{change(func(p []api.Entity) { entity(p, "Out").Kind = api.Class }), world.ErrMethod},
		{change(func(p []api.Entity) { entity(p, "Out").Name = "Oh" }), world.ErrMethod},
		{change(func(p []api.Entity) { entity(p, "Env").Kind = api.Primitive }), world.ErrMethod},
		{change(func(p []api.Entity) { entity(p, "Env").Name = "E" }), world.ErrMethod},
		{change(func(p []api.Entity) { slices.Reverse(entity(p, "Env").Fields) }), world.ErrMethod},
		{change(func(p []api.Entity) { entity(p, "Env").Fields = entity(p, "Env").Fields[:2] }), world.ErrMethod},
		{change(func(p []api.Entity) { e := entity(p, "Env"); e.Fields = append(e.Fields, api.Field{Name: "x"}) }), world.ErrMethod},
	} {
		w, e := world.New(c.p, nil)
		if e != c.want || (w == nil) != (e != api.OK) {
			t.Errorf("program %d: error %d, not %d", i, e, c.want)
		}
		if e := world.Check(world.State{Program: c.p}); e != c.want {
			t.Errorf("program %d: Check is the error %d, not %d", i, e, c.want)
		}
	}
	for _, args := range [][]string{make([]string, 65), {"a", long(20001)}} {
		if w, e := world.New(program(t), args); e != api.ErrSize || w != nil {
			t.Errorf("%d args: error %d", len(args), e)
		}
		if _, e := world.New(nil, args); e != world.ErrMethod {
			t.Errorf("the program ahead of the args: error %d", e)
		}
	}
	args := slices.Repeat([]string{long(20000)}, 64)
	if w, e := world.New(program(t), args); e != api.OK || len(w.State().Cells) != 66 {
		t.Errorf("the longest args: error %d", e)
	}
}

// busy returns a world with actors, objects and messages of all kinds.
func busy(t testing.TB) *world.World {
	w := begun(t, "a", "line\nwith \"quotes\" \\")
	worker, e := w.Spawn("main.Worker")
	if e != api.OK {
		t.Fatalf("Spawn: error %d", e)
	}
	a, b := made(t, w, 1, "main.Cell"), made(t, w, 2, "main.Cell")
	leaf := made(t, w, 1, "main.Leaf")
	set(t, w, a, "r", b)
	set(t, w, b, "r", a)
	set(t, w, a, "p", tuple(b, leaf))
	set(t, w, a, "l", arrayOf(t, w, "Array[main.Cell ref]", a, b))
	set(t, w, actor(1), "c", a)
	set(t, w, actor(1), "w", worker)
	set(t, w, worker, "n", one)
	for range 3 {
		if e := w.Send(api.Message{From: 1, To: 2, Name: "take", Args: []api.Value{b, none, one}}); e != api.OK {
			t.Fatalf("Send: error %d", e)
		}
	}
	if _, _, e := w.Call(1, actor(0), "print", []api.Value{object(1)}); e != api.OK {
		t.Fatalf("print: error %d", e)
	}
	return w
}

// TestStates: Load of State is a world with the same State, which shares no memory with it.
func TestStates(t *testing.T) {
	for _, w := range []*world.World{begun(t), busy(t)} {
		s := w.State()
		if e := world.Check(s); e != api.OK {
			t.Fatalf("Check: error %d", e)
		}
		again, e := world.Load(s)
		if e != api.OK || !alike(again.State(), s) || again.Dump() != w.Dump() || !slices.Equal(again.Paths(), w.Paths()) {
			t.Fatalf("Load: error %d", e)
		}
		spoil(&s)
		if alike(again.State(), s) || !alike(again.State(), w.State()) || !alike(w.State().Program, program(t)) {
			t.Error("a world shares memory with its state")
		}
	}
	p := program(t)
	w, _ := world.New(p, nil)
	s := w.State()
	for i := range p {
		p[i].Name, p[i].Methods, p[i].Fields = "x", nil, nil
	}
	if !alike(w.State(), s) {
		t.Error("a world shares memory with its program")
	}
	if w, e := world.Load(world.State{Program: program(t)}); e != api.OK || w.Dump() != "" || len(w.Ready()) > 0 {
		t.Errorf("a world without actors: error %d", e)
	}
}

// spoil changes all that a state has behind its lists.
func spoil(s *world.State) {
	for i := range s.Program {
		e := &s.Program[i]
		for j := range e.Methods {
			e.Methods[j].Body.Op++
			if len(e.Methods[j].Params) > 0 {
				e.Methods[j].Params[0].Type.Name += "x"
			}
		}
		for j := range e.Fields {
			e.Fields[j].Type.Name += "x"
		}
	}
	for i := range s.Actors {
		for j := range s.Actors[i].Fields {
			s.Actors[i].Fields[j].Lo++
		}
		for j := range s.Actors[i].Mail {
			s.Actors[i].Mail[j].Args[0].Lo++
		}
	}
	for i := range s.Cells {
		s.Cells[i].Owner++
		for j := range s.Cells[i].Fields {
			if k := s.Cells[i].Fields[j].Kids; len(k) > 0 {
				k[0].Lo++
			}
			s.Cells[i].Fields[j].Lo++
		}
	}
	for i := range s.Trace {
		s.Trace[i].Args[0] = "x"
	}
}

// wrongValues are values that are not right in any world of the tests.
func wrongValues() []api.Value {
	return []api.Value{
		{Lo: 1}, {Hi: 1}, {Name: "x"}, {Kids: []api.Value{one}}, {Kind: api.ValBool, Lo: 2}, {Kind: api.ValBool, Hi: 1}, {Kind: api.ValBool, Name: "x"},
		{Kind: api.ValObject, Lo: 99}, {Kind: api.ValObject, Lo: 1 << 63}, {Kind: api.ValObject, Hi: 1}, {Kind: api.ValObject, Name: "x"}, {Kind: api.ValObject, Kids: []api.Value{one}},
		{Kind: api.ValActor, Lo: 99}, {Kind: api.ValActor, Lo: 1 << 63}, {Kind: api.ValActor, Hi: 1}, {Kind: api.ValActor, Name: "x"}, {Kind: api.ValActor, Kids: []api.Value{one}},
		{Kind: api.ValUnit}, unit("main.Cell"), unit("main.Main"), unit("main.Named"), unit("x"), {Kind: api.ValUnit, Name: "None", Lo: 1},
		{Kind: api.ValUnit, Name: "None", Hi: 1}, {Kind: api.ValUnit, Name: "None", Kids: []api.Value{one}},
		tuple(), tuple(one), tuple(one, api.Value{}), tuple(one, api.Value{Lo: 1}), tuple(one, tuple(one)), {Kind: api.ValTuple, Lo: 1, Kids: []api.Value{one, one}},
		{Kind: api.ValTuple, Hi: 1, Kids: []api.Value{one, one}}, {Kind: api.ValTuple, Name: "x", Kids: []api.Value{one, one}}, deepTuple(101),
		{Kind: 18, Lo: 1 << 32}, {Kind: 18, Hi: 1}, {Kind: 18, Name: "x"}, {Kind: 18, Kids: []api.Value{one}}, {Kind: 22, Lo: 0x7fc00001},
		{Kind: -1}, {Kind: 6}, {Kind: 9}, {Kind: 24}, {Kind: 1 << 40},
	}
}

// rightValues are values that are right in a busy world; the first one is no value.
func rightValues() []api.Value {
	return []api.Value{
		{}, truth(true), truth(false), one, number("F32", "nan"), number("I128", "-1"), object(0), object(4), actor(0), actor(2), none, unit("main.Red"), unit("U32"),
		tuple(one, none), tuple(object(1), tuple(one, one), actor(1)), deepTuple(100),
	}
}

// TestCheckValues: right and wrong values in fields, elements and arguments.
func TestCheckValues(t *testing.T) {
	at := func(v api.Value, do func(*world.State, api.Value)) api.Errno {
		s := busy(t).State()
		do(&s, v)
		w, e := world.Load(s)
		if (w == nil) != (e != api.OK) || world.Check(s) != e {
			t.Errorf("Load and Check of %v: error %d", v, e)
		}
		return e
	}
	places := []func(*world.State, api.Value){
		func(s *world.State, v api.Value) { s.Actors[1].Fields[2] = v },
		func(s *world.State, v api.Value) { s.Cells[4].Fields[0] = v },
		func(s *world.State, v api.Value) { s.Cells[7].Fields[1] = v },
		func(s *world.State, v api.Value) { s.Actors[2].Mail[1].Args[2] = v },
	}
	for i, do := range places {
		for j, v := range rightValues() {
			want := api.OK
			if j == 0 && i > 1 {
				want = world.ErrBroken
			}
			if e := at(v, do); e != want {
				t.Errorf("place %d, value %v: error %d, not %d", i, v, e, want)
			}
		}
		for _, v := range wrongValues() {
			if e := at(v, do); e != world.ErrBroken {
				t.Errorf("place %d, value %v: error %d", i, v, e)
			}
		}
	}
}

// change is a change of a busy state, and whether it is right then.
type change struct {
	right bool
	do    func(*world.State)
}

func changes() []change {
	text := func(s *world.State, n int) { s.Cells = append(s.Cells, api.Cell{Type: "String", Bytes: long(n)}) }
	array := func(s *world.State, typ string, n int) {
		s.Cells = append(s.Cells, api.Cell{Type: typ, Fields: slices.Repeat([]api.Value{one}, n)})
	}
	return []change{
		{true, func(s *world.State) {}},
		{true, func(s *world.State) { s.Actors = append(s.Actors, make([]world.Actor, 61)...) }},
		{false, func(s *world.State) { s.Actors = append(s.Actors, make([]world.Actor, 62)...) }},
		{true, func(s *world.State) { s.Cells = append(s.Cells, make([]api.Cell, 20000-len(s.Cells))...) }},
		{false, func(s *world.State) { s.Cells = append(s.Cells, make([]api.Cell, 20001-len(s.Cells))...) }},
		{true, func(s *world.State) { s.Trace, s.Output = make([]api.Send, 100000), make([]string, 100000) }},
		{false, func(s *world.State) { s.Trace = make([]api.Send, 100001) }},
		{false, func(s *world.State) { s.Output = make([]string, 100001) }},
		{true, func(s *world.State) { s.Actors[2].Mail = slices.Repeat(s.Actors[2].Mail[:1], 1999) }},
		{false, func(s *world.State) { s.Actors[2].Mail = slices.Repeat(s.Actors[2].Mail[:1], 2000) }},
		{false, func(s *world.State) { s.Actors[2].Type = "main.Cell" }},
		{false, func(s *world.State) { s.Actors[2].Type = "main.None" }},
		{false, func(s *world.State) { s.Actors[2].Type = "" }},
		{false, func(s *world.State) { s.Actors[2].Fields = s.Actors[2].Fields[:2] }},
		{false, func(s *world.State) { s.Actors[2].Fields = append(s.Actors[2].Fields, one) }},
		{false, func(s *world.State) { s.Actors = append(s.Actors, world.Actor{Fields: []api.Value{{}}}) }},
		{false, func(s *world.State) {
			s.Actors = append(s.Actors, world.Actor{Mail: []api.Message{{From: -1, To: 3, Name: "x"}}})
		}},
		{true, func(s *world.State) { s.Actors = append(s.Actors, world.Actor{Type: "Out"}) }},
		{true, func(s *world.State) { s.Actors[0] = world.Actor{Type: "main.Main", Fields: make([]api.Value, 3)} }},
		{false, func(s *world.State) { s.Actors[2].Mail[1].To = 1 }},
		{false, func(s *world.State) { s.Actors[2].Mail[1].From = -2 }},
		{true, func(s *world.State) { s.Actors[2].Mail[1].From = -1 }},
		{false, func(s *world.State) { s.Actors[2].Mail[1].From = 3 }},
		{true, func(s *world.State) { s.Actors, s.Actors[2].Mail[1].From = append(s.Actors, world.Actor{}), 3 }},
		{true, func(s *world.State) { s.Actors[2].Mail[1].Name = long(60) }},
		{false, func(s *world.State) { s.Actors[2].Mail[1].Name = long(61) }},
		{true, func(s *world.State) { s.Actors[2].Mail[1].Args = nil }},
		{false, func(s *world.State) { s.Cells[4].Owner = 3 }},
		{false, func(s *world.State) { s.Cells[4].Owner = -1 }},
		{true, func(s *world.State) { s.Actors, s.Cells[4].Owner = append(s.Actors, world.Actor{}), 3 }},
		{false, func(s *world.State) { s.Cells[4].Type = "main.Main" }},
		{false, func(s *world.State) { s.Cells[4].Type = "Array[x" }},
		{false, func(s *world.State) { s.Cells[4].Bytes = "x" }},
		{false, func(s *world.State) { s.Cells[4].Fields = s.Cells[4].Fields[:3] }},
		{false, func(s *world.State) { s.Cells[0].Fields = []api.Value{one} }},
		{false, func(s *world.State) { s.Cells[2].Bytes = "x" }},
		{true, func(s *world.State) { s.Cells[2].Type = "Array[]" }},
		{true, func(s *world.State) { text(s, 20000) }},
		{false, func(s *world.State) { text(s, 20001) }},
		{true, func(s *world.State) { array(s, "Array[no type]", 10000) }},
		{false, func(s *world.State) { array(s, "Array[no type]", 10001) }},
		{true, func(s *world.State) { s.Cells = append(s.Cells, api.Cell{}) }},
		{false, func(s *world.State) { s.Cells = append(s.Cells, api.Cell{Owner: 1}) }},
		{false, func(s *world.State) { s.Cells = append(s.Cells, api.Cell{Bytes: "x"}) }},
		{false, func(s *world.State) { s.Cells = append(s.Cells, api.Cell{Fields: []api.Value{{}}}) }},
		{false, func(s *world.State) { s.Cells[4] = api.Cell{} }},
		{true, func(s *world.State) { s.Cells[6].Fields[0] = api.Value{} }},
	}
}

// TestCheckStates: all else that makes a state right or wrong.
func TestCheckStates(t *testing.T) {
	for i, c := range changes() {
		s := busy(t).State()
		c.do(&s)
		want := api.OK
		if !c.right {
			want = world.ErrBroken
		}
		if e := world.Check(s); e != want {
			t.Errorf("change %d: error %d, not %d", i, e, want)
		}
		if w, e := world.Load(s); e != want || (w == nil) == c.right {
			t.Errorf("change %d: Load is the error %d, not %d", i, e, want)
		}
	}
}

// TestMethods: entities and their methods, found in depth.
func TestMethods(t *testing.T) {
	w := begun(t)
	if e, err := w.Entity("main.Cell"); err != api.OK || !alike(e, *entity(program(t), "main.Cell")) {
		t.Errorf("Entity: %v, error %d", e, err)
	}
	for _, name := range []string{"", "Cell", "main.Cell ref"} {
		if e, err := w.Entity(name); err != world.ErrMethod || !alike(e, api.Entity{}) {
			t.Errorf("Entity %q: %v, error %d", name, e, err)
		}
	}
	fun := func(name string, params int) api.Method {
		return api.Method{Kind: api.Fun, Name: name, Params: make([]api.Param, params)}
	}
	of := func(name string, provides []api.Type, m ...api.Method) api.Entity {
		return api.Entity{Kind: api.Class, Name: name, Provides: provides, Methods: m}
	}
	to := func(l ...string) []api.Type {
		var types []api.Type
		for _, s := range l {
			types = append(types, api.Type{Kind: api.TypeName, Name: s})
		}
		return types
	}
	odd := []api.Type{{Kind: api.TypeBoth, Args: to("D")}, {Kind: api.TypeParam, Name: "D"}, {Kind: api.TypeName, Name: "B", Args: to("X")}}
	p := append(program(t), of("A", to("none", "B", "C"), fun("a", 1), fun("a", 2)), of("B", to("A", "D"), fun("b", 1)), of("C", to("D"), fun("b", 2), fun("d", 2)),
		of("D", to("A", "C"), fun("d", 1), fun("e", 7)), of("O", odd), of("", nil, fun("x", 3)))
	w, e := world.New(p, nil)
	if e != api.OK {
		t.Fatalf("New: error %d", e)
	}
	for _, c := range []struct {
		typ, name string
		params    int
	}{
		{"A", "a", 1}, {"A", "b", 1}, {"A", "d", 1}, {"A", "e", 7}, {"C", "b", 2}, {"C", "d", 2}, {"C", "a", 1}, {"D", "b", 1}, {"B", "a", 1}, {"O", "b", 1}, {"O", "d", 2}, {"", "x", 3},
		{"A", "x", -1}, {"X", "a", -1}, {"A", "", -1},
	} {
		m, e := w.Method(c.typ, c.name)
		if c.params < 0 {
			if e != world.ErrMethod || !alike(m, api.Method{}) {
				t.Errorf("%s.%s: error %d", c.typ, c.name, e)
			}
		} else if e != api.OK || m.Name != c.name || len(m.Params) != c.params {
			t.Errorf("%s.%s: %d parameters, error %d", c.typ, c.name, len(m.Params), e)
		}
	}
	m, _ := w.Method("A", "a")
	m.Params[0].Name = "x"
	x, _ := w.Entity("A")
	x.Methods[0].Params[0].Name = "x"
	if s := w.State(); !alike(s.Program, p) {
		t.Error("what is handed out can be changed")
	}
}

// TestNil: all methods of a nil World.
func TestNil(t *testing.T) {
	var w *world.World
	errs := []api.Errno{}
	add := func(e api.Errno) { errs = append(errs, e) }
	_, e := w.Entity("None")
	add(e)
	_, e = w.Method("None", "string")
	add(e)
	_, e = w.Take(0)
	add(e)
	add(w.Send(api.Message{}))
	_, e = w.Spawn("Out")
	add(e)
	_, e = w.Make(0, "Env")
	add(e)
	_, e = w.Text(0, "")
	add(e)
	_, e = w.Array(0, "Array[]", nil)
	add(e)
	_, e = w.Get(one, "x")
	add(e)
	_, e = w.Set(one, "x", one)
	add(e)
	_, _, e = w.Call(0, one, "string", nil)
	add(e)
	_, e = w.Show(one)
	add(e)
	add(w.Drop(0))
	add(w.Remove(0))
	for i, e := range errs {
		if e != api.ErrArg {
			t.Errorf("method %d of a nil World: error %d", i, e)
		}
	}
	_, chosen := w.Choose(1)
	_, _, race := w.Race()
	if chosen || race || w.Type(one) != "" || w.Is(one, ty("U32 val")) || w.Dump() != "" || len(w.Paths())+len(w.Ready()) > 0 || !alike(w.State(), world.State{}) {
		t.Error("a nil World has something")
	}
}
