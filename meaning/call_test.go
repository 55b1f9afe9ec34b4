package meaning_test

import (
	"testing"

	"hackamore/api"
	"hackamore/meaning"
	"hackamore/world"
)

// called calls a method for the actor 1, and checks the outcome.
func called(t *testing.T, w *world.World, want meaning.Outcome, used int, receiver api.Value, name string, args ...api.Value) {
	t.Helper()
	o := meaning.Call(w, 1, receiver, name, args, 1000)
	if o.Used != used {
		t.Errorf("%s: used %d, not %d", name, o.Used, used)
	}
	if o.Used = 0; !alike(o, want) {
		t.Errorf("%s: %v, not %v", name, o, want)
	}
}

// TestCalls: functions with and without bodies, behaviours, and what is not called.
func TestCalls(t *testing.T) {
	p := program(t)
	method(p, "main.Cell", "odd").Kind = 7
	w := over(t, p)
	cell := object(2)
	called(t, w, value(u32(7)), 2, cell, "get")
	called(t, w, value(u32(7)), 3, cell, "put", u32(8))
	called(t, w, value(u32(8)), 2, cell, "get")
	called(t, w, value(u32(1)), 3, cell, "two", u32(3), u32(2))
	called(t, w, wrong(api.ErrSize), 0, cell, "get", u32(1))
	called(t, w, wrong(api.ErrSize), 0, cell, "put")
	called(t, w, wrong(world.ErrMethod), 0, cell, "create")
	called(t, w, wrong(world.ErrMethod), 0, cell, "odd")
	called(t, w, wrong(world.ErrMethod), 0, cell, "x")
	called(t, w, value(object(4)), 1, cell, "name")
	called(t, w, value(object(5)), 1, unit("main.Red"), "name")
	called(t, w, value(number("USize", "5")), 1, unit("main.Red"), "size")
	called(t, w, raised(), 3, cell, "may", truth(true))
	called(t, w, value(u32(3)), 4, cell, "may", truth(false))
	called(t, w, wrong(api.ErrType), 2, cell, "may", u32(1))
	called(t, w, wrong(api.ErrType), 0, pair(u32(1), u32(2)), "x")
	called(t, w, wrong(api.ErrType), 0, api.Value{}, "x")
	called(t, w, wrong(api.ErrType), 0, object(99), "x")
	called(t, w, value(u32(3)), 0, u32(1), "add", u32(2))
	called(t, w, wrong(api.ErrNone), 0, u32(1), "x")
	called(t, w, wrong(world.ErrBroken), 0, u32(1), "add", api.Value{})
	called(t, w, raised(), 0, u32(1), "sub_partial", u32(2))
	called(t, w, value(none), 0, actor(2), "add", u32(2))
	called(t, w, wrong(api.ErrSize), 0, actor(2), "add")
	called(t, w, wrong(world.ErrBroken), 0, actor(2), "add", api.Value{})
	called(t, w, value(u32(9)), 1, actor(2), "me")
	called(t, w, value(none), 0, actor(0), "print", object(4))
	called(t, w, value(none), 0, actor(0), "print", u32(1))
	s := w.State()
	sent := []api.Send{{From: 1, To: 2, Name: "add", Args: []string{"U32 2"}}, {From: 1, To: 0, Name: "print", Args: []string{`"named"#0`}}, {From: 1, To: 0, Name: "print", Args: []string{"U32 1"}}}
	if !alike(s.Trace, sent) || len(s.Output) > 0 || world.Check(s) != api.OK {
		t.Errorf("what was sent: %v", s.Trace)
	}
	if o := meaning.Call(w, 1, cell, "get", nil, 1); !alike(o, meaning.Outcome{Kind: meaning.Empty, Code: api.ErrSteps, Used: 1}) {
		t.Errorf("a call without enough fuel: %v", o)
	}
}

// TestBehaviours: a behaviour needs an actor, also one without a body.
func TestBehaviours(t *testing.T) {
	p := program(t)
	method(p, "main.Cell", "get").Kind = api.Be
	method(p, "main.Worker", "me").Kind = api.New
	method(p, "main.Worker", "add").Body = api.Expr{}
	method(p, "main.Cell", "put").Body = api.Expr{Text: "none"}
	w := over(t, p)
	called(t, w, wrong(api.ErrType), 0, object(2), "get")
	called(t, w, wrong(api.ErrType), 0, object(2), "get", u32(1))
	called(t, w, wrong(world.ErrMethod), 0, actor(2), "me")
	called(t, w, value(none), 0, actor(2), "add", u32(1))
	called(t, w, wrong(api.ErrSize), 0, actor(2), "add")
	called(t, w, wrong(world.ErrMethod), 0, object(2), "put", u32(1))
	for i, from := range []int{-1, 0, 2} {
		if o := meaning.Call(w, from, actor(1), "create", nil, 9); !alike(o, wrong(world.ErrMethod)) {
			t.Errorf("a constructor by a call: %v", o)
		}
		if o := meaning.Call(w, from, actor(2), "add", []api.Value{none}, 9); !alike(o, value(none)) || w.State().Trace[i+1].From != from {
			t.Errorf("a message from %d: %v", from, o)
		}
	}
	if o := meaning.Call(w, 9, actor(2), "add", []api.Value{none}, 9); !alike(o, wrong(api.ErrNone)) {
		t.Errorf("a message from no actor: %v", o)
	}
}

// TestBodies: what becomes of the outcome of a body.
func TestBodies(t *testing.T) {
	for _, c := range []struct {
		body    api.Expr
		result  string
		partial bool
		want    meaning.Outcome
		used    int
	}{
		{one, "U32 val", false, value(u32(1)), 1}, {returns(one), "U32 val", false, value(u32(1)), 2}, {one, "None val", false, value(none), 1}, {returns(one), "None box", true, value(none), 2},
		{one, "(None val | U32 val)", false, value(u32(1)), 1}, {fails, "U32 val", true, raised(), 1}, {fails, "U32 val", false, wrong(api.ErrState), 1}, {breaks, "U32 val", true, wrong(api.ErrForm), 1},
		{continues, "None val", false, wrong(api.ErrForm), 1}, {bad, "U32 val", true, wrong(api.ErrScope), 1}, {local("y"), "U32 val", true, value(u32(6)), 1}, {this, "U32 val", true, value(object(2)), 1},
		{seq(variable("z", one), local("a")), "U32 val", true, wrong(api.ErrScope), 4}, {while(yes, fails, one), "U32 val", true, raised(), 3}, {str(long(20001)), "U32 val", true, empty(api.ErrLarge), 1},
	} {
		p := program(t)
		m := method(p, "main.Cell", "two")
		m.Body, m.Partial, m.Result = c.body, c.partial, ty(c.result)
		w := over(t, p)
		called(t, w, c.want, c.used, object(2), "two", u32(5), u32(6))
		if c.body.Op == api.OpSeq {
			continue
		}
		want, used := c.want, c.used+4
		e := call("two", this, one, lit("6"))
		o := meaning.Eval(w, 1, object(2), e, nil, 99)
		if o.Used != used {
			t.Errorf("used %d, not %d", o.Used, used)
		}
		if o.Used = 0; !alike(o, want) {
			t.Errorf("%v, not %v", o, want)
		}
	}
	p := program(t)
	m := method(p, "main.Cell", "two")
	m.Params[0].Name, m.Body, m.Result = "y", local("y"), api.Type{}
	called(t, over(t, p), value(u32(6)), 1, object(2), "two", u32(5), u32(6))
	m.Result = api.Type{Kind: api.TypeTuple, Name: "None"}
	called(t, over(t, p), value(u32(6)), 1, object(2), "two", u32(5), u32(6))
}

// TestDepth: in how many bodies another one may be run.
func TestDepth(t *testing.T) {
	w := begun(t)
	for n, want := range map[int]meaning.Outcome{0: value(u32(7)), 50: value(u32(7)), 100: value(u32(7)), 101: empty(api.ErrDepth), 120: empty(api.ErrDepth)} {
		o := meaning.Call(w, 1, object(2), "deep", []api.Value{u32(n)}, 100000)
		if o.Used = 0; !alike(o, want) {
			t.Errorf("%d calls: %v", n, o)
		}
		o = meaning.Eval(w, 1, object(2), call("deep", this, local("n")), []meaning.Local{{Name: "n", Value: u32(n)}}, 100000)
		if o.Used, o.Locals = 0, nil; !alike(o, want) {
			t.Errorf("%d calls by Eval: %v", n, o)
		}
	}
	for n, want := range map[string]meaning.End{"0": rest, "99": rest, "100": {Kind: meaning.Fuel, Actor: 2, Code: api.ErrDepth}} {
		p := program(t)
		method(p, "main.Worker", "add").Body = call("deep", create("main.Cell ref", "create"), lit(n))
		if _, end, _ := meaning.Step(posted(t, p, 2, "add", none), 0, 100000); end != want {
			t.Errorf("%s calls by a message: %v", n, end)
		}
	}
	twice := seq(call("deep", this, lit("100")), call("deep", this, lit("100")))
	if o := meaning.Eval(w, 1, object(2), twice, nil, 100000); o.Kind != meaning.Value {
		t.Errorf("one behind the other: %v", o)
	}
}

// TestNew: objects, actors, units, numbers and Arrays.
func TestNew(t *testing.T) {
	expect(t,
		evaluated{create("main.Leaf ref", "create"), value(object(4)), 2},
		evaluated{create("main.Leaf ref", "make", one), value(object(4)), 1 + 1 + 3},
		evaluated{create("main.Cell ref", "create"), value(object(4)), 9},
		evaluated{x(api.OpGet, "n", create("main.Leaf ref", "make", two)), value(u32(2)), 6},
		evaluated{create("main.Leaf ref", "fails"), raised(), 2},
		evaluated{create("main.Leaf ref", "x"), wrong(world.ErrMethod), 1},
		evaluated{create("main.Cell ref", "get"), wrong(world.ErrMethod), 1},
		evaluated{create("main.Cell ref", "name"), wrong(world.ErrMethod), 1},
		evaluated{create("main.Cell ref", "get", one), wrong(world.ErrMethod), 2},
		evaluated{create("main.Leaf ref", "make"), wrong(api.ErrSize), 1},
		evaluated{create("main.Leaf ref", "create", one), wrong(api.ErrSize), 2},
		evaluated{create("main.Leaf ref", "make", fails, bad), raised(), 2},
		evaluated{create("main.Leaf ref", "make", this), value(object(4)), 5},
		evaluated{create("main.Worker tag", "create", one), value(actor(3)), 2},
		evaluated{create("main.Worker tag", "create"), wrong(api.ErrSize), 1},
		evaluated{create("main.Worker tag", "add", one), wrong(world.ErrMethod), 2},
		evaluated{create("main.Worker tag", "x"), wrong(world.ErrMethod), 1},
		evaluated{create("main.Red val", "create"), value(unit("main.Red")), 1},
		evaluated{create("main.Red val", "x", one, two), value(unit("main.Red")), 3},
		evaluated{create("main.Named box", "create"), wrong(world.ErrMethod), 1},
		evaluated{create("x ref", "create"), wrong(world.ErrMethod), 1},
		evaluated{create("U32 val", "create", two), value(u32(2)), 2},
		evaluated{create("F64 val", "create", two), wrong(api.ErrType), 2},
		evaluated{create("U32 val", "create", nix), wrong(api.ErrType), 2},
		evaluated{create("U32 val", "create", tx(api.OpUnit, "", "U32 val")), value(unit("U32")), 2},
		evaluated{create("U32 val", "x", two), value(unit("U32")), 2},
		evaluated{create("U32 val", "create"), value(unit("U32")), 1},
		evaluated{create("U32 val", "create", one, two), value(unit("U32")), 3},
		evaluated{create("I128 val", "create", two), wrong(api.ErrType), 2},
		evaluated{create(`"Array[main.Cell ref]" ref`, "create"), value(object(4)), 1},
		evaluated{create(`"Array[x]" ref`, "create"), value(object(4)), 1},
		evaluated{create(`"Array[x" ref`, "create"), wrong(world.ErrMethod), 1},
		evaluated{create(`"Array[x]" ref`, "create", one), wrong(world.ErrMethod), 2},
		evaluated{create(`"Array[x]" ref`, "x"), wrong(world.ErrMethod), 1},
		evaluated{create(`"Array[main.Cell ref]" ref`, "create", one), wrong(api.ErrSize), 2},
		evaluated{create("String val", "create"), wrong(world.ErrMethod), 1},
	)
	w := begun(t)
	o := meaning.Eval(w, 1, none, seq(create(`"Array[x]" ref`, "create"), create("main.Worker tag", "create", two)), nil, 99)
	s := w.State()
	if o.Kind != meaning.Value || !alike(s.Cells[4], api.Cell{Type: "Array[x]", Owner: 1}) || len(s.Actors) != 4 ||
		!alike(s.Actors[3].Mail, []api.Message{{From: 1, To: 3, Name: "create", Args: []api.Value{u32(2)}}}) || len(s.Trace) != 1 {
		t.Errorf("what was made: %v", o)
	}
	if o := meaning.Eval(w, 9, none, create("main.Leaf ref", "create"), nil, 99); !alike(o, meaning.Outcome{Kind: meaning.Wrong, Code: api.ErrNone, Used: 1}) {
		t.Errorf("an object of no actor: %v", o)
	}
	p := append(program(t), api.Entity{Kind: api.Actor, Methods: []api.Method{{Kind: api.New, Name: "create"}}})
	unnamed := api.Expr{Op: api.OpNew, Text: "create", Types: []api.Type{{}}}
	if o := meaning.Eval(over(t, p), 1, none, unnamed, nil, 99); !alike(o, meaning.Outcome{Kind: meaning.Wrong, Code: world.ErrMethod, Used: 1}) {
		t.Errorf("an actor without a name: %v", o)
	}
	p = program(t)
	m := method(p, "main.Leaf", "create")
	m.Body, m.Result = returns(one), ty("None val")
	if o := meaning.Eval(over(t, p), 1, none, create("main.Leaf ref", "create"), nil, 99); !alike(o, meaning.Outcome{Value: object(4), Used: 3}) {
		t.Errorf("the result of a constructor does not matter: %v", o)
	}
	m.Body = api.Expr{}
	if o := meaning.Eval(over(t, p), 1, none, create("main.Leaf ref", "create"), nil, 99); o.Kind != meaning.Wrong || o.Code != api.ErrForm || o.Used != 2 {
		t.Errorf("a constructor without a body: %v", o)
	}
}

// TestWorldLimits: what is empty by a limit of the world.
func TestWorldLimits(t *testing.T) {
	full := func(change func(*world.State)) *world.World {
		s := begun(t).State()
		change(&s)
		w, e := world.Load(s)
		if e != api.OK {
			t.Fatalf("Load: error %d", e)
		}
		return w
	}
	cells := full(func(s *world.State) { s.Cells = append(s.Cells, make([]api.Cell, 19996)...) })
	actors := full(func(s *world.State) { s.Actors = append(s.Actors, make([]world.Actor, 61)...) })
	trace := full(func(s *world.State) { s.Trace = make([]api.Send, 100000) })
	for i, c := range []struct {
		w    *world.World
		e    api.Expr
		code api.Errno
	}{
		{cells, str("a"), api.ErrFull}, {cells, create("main.Leaf ref", "create"), api.ErrFull}, {cells, create(`"Array[x]" ref`, "create"), api.ErrFull}, {cells, call("string", one), api.ErrFull},
		{actors, create("main.Worker tag", "create", one), api.ErrFull}, {trace, create("main.Worker tag", "create", one), api.ErrFull}, {trace, call("add", local("w"), one), api.ErrFull},
	} {
		for _, e := range []api.Expr{c.e, try(c.e, one, returns(two)), call("two", this, c.e, one)} {
			o := meaning.Eval(c.w, 1, object(2), e, locals(), 99)
			if o.Kind != meaning.Empty || o.Code != c.code || !alike(o.Value, api.Value{}) || len(o.Locals) != 5 {
				t.Errorf("%d: %v", i, o)
			}
		}
	}
	if n := len(trace.State().Actors); n != 6 {
		t.Errorf("what was done until then stays: %d actors", n)
	}
	w := begun(t)
	large, _ := w.Text(1, long(20000))
	if o := meaning.Call(w, 1, actor(2), "add", []api.Value{large}, 9); !alike(o, empty(api.ErrLarge)) {
		t.Errorf("a message that is too large: %v", o)
	}
	v := large
	for range 102 {
		v, _ = w.Array(1, "Array[x]", []api.Value{v})
	}
	if o := meaning.Call(w, 1, actor(2), "add", []api.Value{v}, 9); !alike(o, empty(api.ErrDepth)) {
		t.Errorf("a message that is too deep: %v", o)
	}
	if o := meaning.Call(w, 1, large, "add", []api.Value{large}, 9); !alike(o, empty(api.ErrLarge)) {
		t.Errorf("a String that is too large: %v", o)
	}
}
