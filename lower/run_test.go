package lower_test

import (
	"slices"
	"strings"
	"testing"

	"hackamore/api"
	"hackamore/lower"
	"hackamore/meaning"
	"hackamore/num"
	"hackamore/ssa"
	"hackamore/walk"
	"hackamore/world"
)

// Values, and instructions.
func u32(n int) api.Value { return api.Value{Kind: 18, Lo: uint64(n)} }

func truth(b bool) api.Value {
	if b {
		return api.Value{Kind: api.ValBool, Lo: 1}
	}
	return api.Value{Kind: api.ValBool}
}

func unit(name string) api.Value { return api.Value{Kind: api.ValUnit, Name: name} }

func object(n int) api.Value { return api.Value{Kind: api.ValObject, Lo: uint64(n)} }

func ins(op, result int, args ...int) ssa.Ins { return ssa.Ins{Op: op, Result: result, Args: args} }

func named(op, result int, name string, args ...int) ssa.Ins {
	return ssa.Ins{Op: op, Result: result, Text: name, Args: args}
}

func constant(result int, v api.Value) ssa.Ins { return ssa.Ins{Op: ssa.Const, Result: result, Lit: v} }

func spawn(result int, entity, constructor string, args ...int) ssa.Ins {
	return ssa.Ins{Op: ssa.Spawn, Result: result, Name: entity, Text: constructor, Args: args}
}

func fits(result int, typ string, v int) ssa.Ins {
	return ssa.Ins{Op: ssa.Fits, Result: result, Type: ty(typ), Args: []int{v}}
}

func item(result, n, v int) ssa.Ins {
	return ssa.Ins{Op: ssa.Item, Result: result, N: n, Args: []int{v}}
}

func block(end ssa.End, l ...ssa.Ins) ssa.Block { return ssa.Block{Ins: l, End: end} }

func yields(v int) ssa.End { return ssa.End{Kind: ssa.Return, Args: []int{v}} }

func jump(to int) ssa.End { return ssa.End{Kind: ssa.Jump, To: []int{to}} }

func branch(v, a, b int) ssa.End { return ssa.End{Kind: ssa.Branch, Args: []int{v}, To: []int{a, b}} }

func attempt(x ssa.Ins, a, b int) ssa.End {
	return ssa.End{Kind: ssa.Try, Call: x, To: []int{a, b}}
}

// function returns a function with so many parameters.
func function(name string, params int, l ...ssa.Block) ssa.Func {
	return ssa.Func{Name: name, Params: make([]api.Type, params), Blocks: l}
}

// stepped is what comes of the first message of a program, which main.Main.create takes.
type stepped struct {
	used  int
	end   meaning.End
	state world.State
}

// step runs blocks as the body of main.Main.create, with other functions beside it: 0 is the actor, 1 the Env.
func step(t *testing.T, fuel int, blocks []ssa.Block, more ...ssa.Func) stepped {
	t.Helper()
	w, e := world.New(parsed(t, text), nil)
	if e != api.OK {
		t.Fatalf("New: error %d", e)
	}
	p := ssa.Program{Funcs: append([]ssa.Func{function("main.Main.create", 2, blocks...)}, more...)}
	if at, e := ssa.Check(p); e != api.OK {
		t.Fatalf("functions that are not right: error %d at %v", e, at)
	}
	used, end, ok := lower.Step(p, w, 0, fuel)
	if !ok {
		t.Fatal("no step")
	}
	if e := world.Check(w.State()); e != api.OK {
		t.Errorf("the state is not right: error %d", e)
	}
	return stepped{used, end, w.State()}
}

var rest = meaning.End{Kind: meaning.Rest, Actor: -1}

func stuck(e api.Errno) meaning.End { return meaning.End{Kind: meaning.Stuck, Actor: 1, Code: e} }

func spent(e api.Errno) meaning.End { return meaning.End{Kind: meaning.Fuel, Actor: 1, Code: e} }

// gives checks the value 50 that instructions make, which they find in the field k of main.Main.
func gives(t *testing.T, what string, want api.Value, l ...ssa.Ins) world.State {
	t.Helper()
	s := step(t, 1000, []ssa.Block{block(yields(0), append(l, named(ssa.Set, 60, "k", 0, 50))...)})
	if got := s.state.Actors[1].Fields[1]; s.end != rest || s.used != len(l)+3 || !alike(got, want) {
		t.Errorf("%s: %v, the end %v, used %d, not %v", what, got, s.end, s.used, want)
	}
	return s.state
}

// ends checks how instructions end a step; the last one uses the last fuel.
func ends(t *testing.T, what string, want meaning.End, l ...ssa.Ins) {
	t.Helper()
	s := step(t, 1000, []ssa.Block{block(yields(0), l...)})
	if used := len(l) + 1; s.end != want || s.used != used {
		t.Errorf("%s: %v, used %d, not %v, %d", what, s.end, s.used, want, used)
	}
	less := step(t, len(l), []ssa.Block{block(yields(0), l...)})
	if less.end != spent(api.ErrSteps) || less.used != len(l) {
		t.Errorf("%s with less fuel: %v, used %d", what, less.end, less.used)
	}
}

// TestInstructions: what they give.
func TestInstructions(t *testing.T) {
	one, two := constant(10, u32(1)), constant(11, u32(2))
	gives(t, "const", u32(7), constant(50, u32(7)))
	s := gives(t, "text", object(2), named(ssa.Text, 50, "é"))
	if c := s.Cells[2]; c.Type != "String" || c.Bytes != "é" || c.Owner != 1 {
		t.Errorf("a text: %v", c)
	}
	gives(t, "load", u32(1), one, named(ssa.Store, 12, "x", 10), named(ssa.Load, 50, "x"))
	gives(t, "store", unit("None"), one, named(ssa.Store, 50, "x", 10))
	gives(t, "store again", u32(1), one, two, named(ssa.Store, 12, "x", 10), named(ssa.Store, 50, "x", 11))
	gives(t, "store of nothing", unit("None"), constant(10, api.Value{}), named(ssa.Store, 12, "x", 10), named(ssa.Store, 50, "x", 10))
	gives(t, "get", u32(1), one, named(ssa.Set, 12, "k", 0, 10), named(ssa.Get, 50, "k", 0))
	gives(t, "set of a field without a value", unit("None"), one, named(ssa.Set, 50, "w", 0, 10))
	gives(t, "set", u32(1), one, two, named(ssa.Set, 12, "w", 0, 10), named(ssa.Set, 50, "w", 0, 11))
	s = gives(t, "make", object(2), ssa.Ins{Op: ssa.Make, Result: 50, Text: "main.Leaf", Flag: true})
	if c := s.Cells[2]; c.Type != "main.Leaf" || c.Owner != 1 || len(c.Fields) != 1 {
		t.Errorf("an object: %v", c)
	}
	s = gives(t, "make of an Array", object(2), named(ssa.Make, 50, "Array[x]"))
	if c := s.Cells[2]; c.Type != "Array[x]" || c.Owner != 1 {
		t.Errorf("an Array: %v", c)
	}
	gives(t, "a call of the runtime", u32(3), one, two, named(ssa.Call, 50, "add", 10, 11))
	gives(t, "native", u32(3), one, two, named(ssa.Native, 50, "U32.add", 10, 11))
	gives(t, "native with two dots", u32(3), one, two, named(ssa.Native, 50, "x.y.add", 10, 11))
	gives(t, "native without a dot", u32(3), one, two, named(ssa.Native, 50, "add", 10, 11))
	gives(t, "send", unit("None"), one, spawn(12, "main.Worker", "create", 10), named(ssa.Send, 50, "any", 12, 10, 10))
	s = gives(t, "spawn", api.Value{Kind: api.ValActor, Lo: 2}, one, spawn(50, "main.Worker", "create", 10))
	if want := []api.Send{{From: 1, To: 2, Name: "create", Args: []string{"U32 1"}}}; !alike(s.Trace, want) || s.Actors[2].Type != "main.Worker" {
		t.Errorf("spawn: %v", s.Trace)
	}
	pair := api.Value{Kind: api.ValTuple, Kids: []api.Value{u32(1), u32(2)}}
	gives(t, "tuple", pair, one, two, ins(ssa.Tuple, 50, 10, 11))
	gives(t, "item", u32(2), one, two, ins(ssa.Tuple, 12, 10, 11), item(50, 1, 12))
	gives(t, "item of a const", u32(1), constant(12, pair), item(50, 0, 12))
	gives(t, "is", truth(false), one, two, ins(ssa.Is, 50, 10, 11))
	gives(t, "is itself", truth(true), named(ssa.Make, 12, "main.Leaf"), ins(ssa.Is, 50, 12, 12))
	gives(t, "fits", truth(true), named(ssa.Make, 12, "main.Cell"), fits(50, "main.Named val", 12))
	gives(t, "fits not", truth(false), one, fits(50, "main.Named val", 10))
	gives(t, "fits a tuple", truth(true), constant(12, pair), fits(50, "(U32 val, Any tag)", 12))
}

// TestInstructionErrors: what makes a step stuck, or spends it.
func TestInstructionErrors(t *testing.T) {
	one, none := constant(10, u32(1)), constant(11, api.Value{})
	worker := spawn(12, "main.Worker", "create", 10)
	for _, c := range []struct {
		what string
		want meaning.End
		l    []ssa.Ins
	}{
		{"load", stuck(world.ErrUnset), []ssa.Ins{named(ssa.Load, 50, "x")}}, {"load of nothing", stuck(world.ErrUnset), []ssa.Ins{none, named(ssa.Store, 12, "x", 11), named(ssa.Load, 50, "x")}},
		{"get without a value", stuck(world.ErrUnset), []ssa.Ins{named(ssa.Get, 50, "k", 0)}}, {"get of no field", stuck(world.ErrMethod), []ssa.Ins{named(ssa.Get, 50, "none", 0)}}, {"get of a number", stuck(world.ErrMethod), []ssa.Ins{one, named(ssa.Get, 50, "k", 10)}},
		{"get of another actor", stuck(api.ErrCap), []ssa.Ins{one, worker, named(ssa.Get, 50, "n", 12)}}, {"set of another actor", stuck(api.ErrCap), []ssa.Ins{one, worker, named(ssa.Set, 50, "n", 12, 10)}},
		{"set of no field", stuck(world.ErrMethod), []ssa.Ins{one, named(ssa.Set, 50, "none", 0, 10)}}, {"make of an actor", stuck(world.ErrMethod), []ssa.Ins{named(ssa.Make, 50, "main.Worker")}}, {"make of half an Array", stuck(world.ErrMethod), []ssa.Ins{named(ssa.Make, 50, "Array[x")}},
		{"a call of a tuple", stuck(api.ErrType), []ssa.Ins{one, ins(ssa.Tuple, 13, 10, 10), named(ssa.Call, 50, "add", 13)}}, {"a call of no method", stuck(api.ErrNone), []ssa.Ins{one, named(ssa.Call, 50, "none", 10)}},
		{"a call of an object's missing method", stuck(world.ErrMethod), []ssa.Ins{named(ssa.Make, 12, "main.Leaf"), named(ssa.Call, 50, "none", 12)}}, {"a call that raises", stuck(api.ErrState), []ssa.Ins{constant(10, u32(0)), named(ssa.Call, 50, "div_partial", 10, 10)}},
		{"a native that raises", stuck(api.ErrState), []ssa.Ins{constant(10, u32(0)), named(ssa.Native, 50, "U32.div_partial", 10, 10)}}, {"a native without arguments", stuck(world.ErrBroken), []ssa.Ins{named(ssa.Native, 50, "U32.add")}},
		{"a native of an actor", stuck(world.ErrMethod), []ssa.Ins{named(ssa.Native, 50, "main.Main.go", 0)}}, {"spawn of a class", stuck(world.ErrMethod), []ssa.Ins{spawn(50, "main.Leaf", "create")}}, {"spawn of nothing", stuck(world.ErrMethod), []ssa.Ins{spawn(50, "none", "create")}},
		{"spawn by a behaviour", stuck(world.ErrMethod), []ssa.Ins{one, spawn(50, "main.Worker", "add", 10)}}, {"spawn by nothing", stuck(world.ErrMethod), []ssa.Ins{one, spawn(50, "main.Worker", "none", 10)}}, {"spawn with too few arguments", stuck(api.ErrSize), []ssa.Ins{spawn(50, "main.Worker", "create")}},
		{"send to a number", stuck(api.ErrType), []ssa.Ins{one, named(ssa.Send, 50, "add", 10)}}, {"send of a long name", stuck(api.ErrSize), []ssa.Ins{named(ssa.Send, 50, strings.Repeat("x", 61), 0)}}, {"send of what is not right", stuck(world.ErrBroken), []ssa.Ins{constant(10, object(99)), named(ssa.Send, 50, "add", 0, 10)}},
		{"item of a number", stuck(api.ErrType), []ssa.Ins{one, item(50, 0, 10)}}, {"item beyond", stuck(api.ErrRange), []ssa.Ins{one, ins(ssa.Tuple, 13, 10, 10), item(50, 2, 13)}},
		{"get of nothing", stuck(world.ErrUnset), []ssa.Ins{none, named(ssa.Get, 50, "k", 11)}}, {"set to nothing", stuck(world.ErrUnset), []ssa.Ins{none, named(ssa.Set, 50, "none", 0, 11)}}, {"a call with nothing", stuck(world.ErrUnset), []ssa.Ins{none, named(ssa.Call, 50, "none", 0, 11)}},
		{"a native with nothing", stuck(world.ErrUnset), []ssa.Ins{none, named(ssa.Native, 50, "none", 0, 11)}}, {"spawn with nothing", stuck(world.ErrUnset), []ssa.Ins{none, spawn(50, "none", "none", 11)}}, {"send with nothing", stuck(world.ErrUnset), []ssa.Ins{one, none, named(ssa.Send, 50, "add", 10, 11)}},
		{"a tuple of nothing", stuck(world.ErrUnset), []ssa.Ins{none, ins(ssa.Tuple, 50, 0, 11)}}, {"item of nothing", stuck(world.ErrUnset), []ssa.Ins{none, item(50, 0, 11)}}, {"is nothing", stuck(world.ErrUnset), []ssa.Ins{none, ins(ssa.Is, 50, 11, 0)}}, {"fits nothing", stuck(world.ErrUnset), []ssa.Ins{none, fits(50, "Any tag", 11)}},
	} {
		ends(t, c.what, c.want, c.l...)
	}
}

// TestEnds: branches, tries and other ends, with their fuel.
func TestEnds(t *testing.T) {
	note := func(n int) []ssa.Ins {
		return []ssa.Ins{constant(100+n, u32(n)), named(ssa.Set, 200+n, "k", 0, 100+n)}
	}
	tell := func(n int) ssa.Block { return block(yields(0), note(n)...) }
	zero := constant(10, u32(0))
	failing := function("f", 1, block(ssa.End{Kind: ssa.Error}))
	failing.Partial = true
	wrong := function("g", 1, block(ssa.End{Kind: ssa.Error}))
	same := function("h", 1, block(yields(0)))
	phi := func(end ssa.End, l ...ssa.Ins) []ssa.Block {
		return []ssa.Block{block(end, append(l, constant(20, u32(20)), constant(21, u32(21)))...), block(yields(0), ins(ssa.Phi, 30, 20, 21), ins(ssa.Phi, 31, 21, 20), named(ssa.Set, 40, "k", 0, 30))}
	}
	for i, c := range []struct {
		l    []ssa.Block
		k    api.Value
		end  meaning.End
		used int
	}{
		{[]ssa.Block{block(jump(1)), tell(1)}, u32(1), rest, 5}, {[]ssa.Block{block(branch(10, 1, 2), constant(10, truth(true))), tell(1), tell(2)}, u32(1), rest, 6}, {[]ssa.Block{block(branch(10, 1, 2), constant(10, truth(false))), tell(1), tell(2)}, u32(2), rest, 6},
		{[]ssa.Block{block(branch(10, 1, 2), zero), tell(1), tell(2)}, api.Value{}, stuck(api.ErrType), 3}, {[]ssa.Block{block(branch(10, 1, 2), constant(10, api.Value{Kind: api.ValBool, Lo: 2})), tell(1), tell(2)}, api.Value{}, stuck(api.ErrType), 3},
		{[]ssa.Block{block(branch(10, 1, 2), constant(10, api.Value{})), tell(1), tell(2)}, api.Value{}, stuck(world.ErrUnset), 3}, {[]ssa.Block{block(yields(10), constant(10, api.Value{}))}, api.Value{}, stuck(world.ErrUnset), 3},
		{[]ssa.Block{block(ssa.End{Kind: ssa.Error})}, api.Value{}, stuck(api.ErrState), 2}, {[]ssa.Block{block(ssa.End{Kind: ssa.Stuck})}, api.Value{}, stuck(api.ErrState), 2}, {[]ssa.Block{block(yields(10), zero)}, api.Value{}, rest, 3},
		{[]ssa.Block{block(attempt(named(ssa.Call, 11, "div_partial", 10, 10), 1, 2), zero), tell(1), tell(2)}, u32(2), rest, 6}, {[]ssa.Block{block(attempt(named(ssa.Call, 11, "add", 10, 10), 1, 2), zero), block(yields(0), named(ssa.Set, 12, "k", 0, 11)), tell(2)}, u32(0), rest, 5},
		{[]ssa.Block{block(attempt(named(ssa.Direct, 11, "f", 0), 1, 2)), tell(1), tell(2)}, u32(2), rest, 6}, {[]ssa.Block{block(attempt(named(ssa.Direct, 11, "h", 0), 1, 2)), tell(1), tell(2)}, u32(1), rest, 6}, {[]ssa.Block{block(attempt(named(ssa.Direct, 11, "g", 0), 1, 2)), tell(1), tell(2)}, api.Value{}, stuck(api.ErrState), 3},
		{[]ssa.Block{block(attempt(named(ssa.Call, 11, "add", 10), 1, 2), constant(10, api.Value{})), tell(1), tell(2)}, api.Value{}, stuck(world.ErrUnset), 3}, {[]ssa.Block{block(yields(0), named(ssa.Direct, 11, "f", 0))}, api.Value{}, stuck(api.ErrState), 3},
		{phi(branch(10, 1, 1), constant(10, truth(true))), u32(20), rest, 9}, {phi(branch(10, 1, 1), constant(10, truth(false))), u32(21), rest, 9},
	} {
		s := step(t, 1000, c.l, failing, wrong, same)
		if got := s.state.Actors[1].Fields[1]; s.end != c.end || s.used != c.used || !alike(got, c.k) {
			t.Errorf("%d: %v, %v, used %d, not %v, %v, %d", i, got, s.end, s.used, c.k, c.end, c.used)
		}
		if less := step(t, c.used-1, c.l, failing, wrong, same); less.end != spent(api.ErrSteps) || less.used != c.used-1 {
			t.Errorf("%d with less fuel: %v, used %d", i, less.end, less.used)
		}
	}
}

// TestPhis: all phis of a block take their values at once, by the way by which it was entered.
func TestPhis(t *testing.T) {
	l := []ssa.Block{
		block(jump(1), constant(10, u32(1)), constant(11, u32(2)), constant(12, u32(0)), constant(13, u32(3))),
		block(branch(23, 2, 3), ins(ssa.Phi, 20, 10, 21), ins(ssa.Phi, 21, 11, 20), ins(ssa.Phi, 22, 12, 24), named(ssa.Call, 23, "lt", 22, 13)),
		block(jump(1), named(ssa.Call, 24, "add", 22, 10)),
		block(yields(0), ins(ssa.Tuple, 30, 20, 21), named(ssa.Set, 31, "k", 0, 30)),
	}
	s := step(t, 1000, l)
	if want := (api.Value{Kind: api.ValTuple, Kids: []api.Value{u32(2), u32(1)}}); s.end != rest || !alike(s.state.Actors[1].Fields[1], want) || s.used != 1+5+4*5+3*2+3 {
		t.Errorf("%v, %v, used %d", s.end, s.state.Actors[1].Fields[1], s.used)
	}
}

// TestFunctions: which functions are called, by which names, with how many values, and how deep.
func TestFunctions(t *testing.T) {
	put := func(v int) ssa.Ins { return named(ssa.Set, 60, "k", 0, v) }
	number := func(name string, params, n int) ssa.Func {
		return function(name, params, block(yields(70), constant(70, u32(n))))
	}
	kept := func(what string, want api.Value, end meaning.End, l []ssa.Ins, more ...ssa.Func) {
		t.Helper()
		s := step(t, 5000, []ssa.Block{block(yields(0), l...)}, more...)
		if got := s.state.Actors[1].Fields[1]; s.end != end || !alike(got, want) {
			t.Errorf("%s: %v, %v", what, got, s.end)
		}
	}
	one := constant(10, u32(1))
	kept("a function for numbers", u32(7), rest, []ssa.Ins{one, named(ssa.Call, 11, "add", 10, 10), put(11)}, number("U32.add", 2, 7))
	kept("a native goes past it", u32(2), rest, []ssa.Ins{one, named(ssa.Native, 11, "U32.add", 10, 10), put(11)}, number("U32.add", 2, 7))
	kept("a function of an object", u32(8), rest, []ssa.Ins{named(ssa.Make, 12, "main.Leaf"), named(ssa.Call, 11, "any", 12), put(11)}, number("main.Leaf.any", 1, 8))
	kept("a function of a unit", u32(9), rest, []ssa.Ins{constant(12, unit("main.Red")), named(ssa.Call, 11, "any", 12), put(11)}, number("main.Red.any", 1, 9))
	kept("another number of values", api.Value{}, stuck(api.ErrSize), []ssa.Ins{one, named(ssa.Call, 11, "add", 10, 10), put(11)}, number("U32.add", 1, 7))
	kept("the locals of another activation", api.Value{}, stuck(world.ErrUnset), []ssa.Ins{named(ssa.Store, 11, "x", 0), named(ssa.Direct, 12, "f")}, function("f", 0, block(yields(1), named(ssa.Load, 1, "x"))))
	deep := function("f", 2, block(branch(3, 1, 2), constant(2, u32(0)), named(ssa.Call, 3, "eq", 0, 2)), block(yields(2)), block(yields(6), constant(4, u32(1)), named(ssa.Call, 5, "sub", 0, 4), named(ssa.Direct, 6, "f", 5, 1)))
	for n, want := range map[int]meaning.End{0: rest, 99: rest, 100: spent(api.ErrDepth), 120: spent(api.ErrDepth)} {
		kept("a depth", api.Value{}, want, []ssa.Ins{constant(10, u32(n)), named(ssa.Direct, 11, "f", 10, 10)}, deep)
	}
	size := function("f", 1, block(yields(0), named(ssa.Call, 1, "none", 0)))
	wide := function("main.Main.none", 2, block(yields(0)))
	kept("the size ahead of the depth", api.Value{}, stuck(api.ErrSize), []ssa.Ins{named(ssa.Direct, 11, "f", 0)}, size, wide)
}

// TestMessages: how messages find functions.
func TestMessages(t *testing.T) {
	p := parsed(t, text)
	posted := func(to int, name string, args ...api.Value) *world.World {
		w, _ := world.New(p, nil)
		w.Take(1)
		w.Spawn("main.Worker")
		if e := w.Send(api.Message{From: 1, To: to, Name: name, Args: args}); e != api.OK {
			t.Fatalf("Send: error %d", e)
		}
		return w
	}
	at := func(kind, actor int, e api.Errno) meaning.End {
		return meaning.End{Kind: kind, Actor: actor, Code: e}
	}
	add := function("main.Worker.add", 2, block(yields(1)))
	raises := function("main.Worker.add", 2, block(ssa.End{Kind: ssa.Error}))
	raises.Partial = true
	for i, c := range []struct {
		w    *world.World
		f    ssa.Func
		used int
		want meaning.End
	}{
		{posted(2, "add", u32(1)), add, 2, rest}, {posted(2, "add", u32(1)), raises, 2, at(meaning.Stuck, 2, api.ErrState)}, {posted(2, "add"), add, 1, at(meaning.Stuck, 2, api.ErrSize)}, {posted(2, "none"), add, 1, at(meaning.Stuck, 2, world.ErrMethod)},
		{posted(1, "go", u32(1), u32(1), u32(1)), add, 1, at(meaning.Stuck, 1, world.ErrMethod)}, {posted(2, "take", u32(1)), add, 1, at(meaning.Stuck, 2, world.ErrMethod)}, {posted(0, "print", u32(1)), add, 1, at(meaning.Stuck, 0, api.ErrType)},
		{posted(2, "add", u32(1)), function("main.Worker.add", 1, block(yields(0))), 1, at(meaning.Stuck, 2, api.ErrSize)},
	} {
		used, end, ok := lower.Step(ssa.Program{Funcs: []ssa.Func{c.f}}, c.w, 0, 50)
		if used != c.used || end != c.want || !ok {
			t.Errorf("%d: used %d, %v, %t, not %d, %v", i, used, end, ok, c.used, c.want)
		}
		if len(c.w.Ready()) > 0 {
			t.Errorf("%d: the message was not taken", i)
		}
	}
	w := posted(2, "add", u32(1))
	before := w.State()
	for _, fuel := range []int{0, -1, -1 << 63} {
		if used, end, ok := lower.Step(ssa.Program{}, w, 0, fuel); used != 0 || end != at(meaning.Fuel, 2, api.ErrSteps) || !ok || !alike(before, w.State()) {
			t.Errorf("a step without fuel: %d, %v, %t", used, end, ok)
		}
	}
	bad := ssa.Program{Funcs: []ssa.Func{{}}}
	if used, end, ok := lower.Step(bad, w, 0, 50); used != 0 || end != at(meaning.Stuck, -1, lower.ErrLower) || !ok || !alike(before, w.State()) {
		t.Errorf("functions that are not right: %d, %v, %t", used, end, ok)
	}
	if used, end, ok := lower.Step(bad, nil, 0, 50); used != 0 || end != at(meaning.Stuck, -1, api.ErrArg) || ok {
		t.Errorf("no world: %d, %v, %t", used, end, ok)
	}
	w.Take(2)
	if used, end, ok := lower.Step(ssa.Program{}, w, 0, 0); used != 0 || end != rest || ok {
		t.Errorf("no mail: %d, %v, %t", used, end, ok)
	}
	if used, end, ok := lower.Step(bad, w, 0, 0); used != 0 || end != at(meaning.Stuck, -1, lower.ErrLower) || !ok {
		t.Errorf("no mail, and functions that are not right: %d, %v, %t", used, end, ok)
	}
	s, end := lower.Run(bad, p, []string{"a"}, nil, 50)
	first, _ := world.New(p, []string{"a"})
	if end != at(meaning.Stuck, -1, lower.ErrLower) || !alike(s, first.State()) {
		t.Errorf("Run: %v", end)
	}
}

// TestFuel: a run that does not end by fuel ends alike with more (P20.3); Run takes the steps of Step.
func TestFuel(t *testing.T) {
	p := parsed(t, ordinary)
	f := lowered(t, p)
	script := []int{3, 1, 4, 1, 5, 9, 2, 6}
	w, _ := world.New(p, []string{"x"})
	sum := 0
	for turn := 0; ; turn++ {
		choice := 0
		if turn < len(script) {
			choice = script[turn]
		}
		used, end, ok := lower.Step(f, w, choice, 100000)
		if !ok {
			break
		}
		if end != rest || used < 1 {
			t.Fatalf("a step: %v, used %d", end, used)
		}
		sum += used
	}
	for fuel, want := range map[int]int{sum: meaning.Rest, sum + 1: meaning.Rest, 1 << 40: meaning.Rest, sum - 1: meaning.Fuel, sum / 2: meaning.Fuel, 0: meaning.Fuel, -5: meaning.Fuel} {
		s, end := lower.Run(f, p, []string{"x"}, script, fuel)
		if end.Kind != want || want == meaning.Fuel && end.Code != api.ErrSteps || want == meaning.Rest && !alike(s, w.State()) {
			t.Errorf("the fuel %d of %d: %v", fuel, sum, end)
		}
	}
}

// TestLimits: what the world has no room for.
func TestLimits(t *testing.T) {
	loop := func(x ssa.Ins) []ssa.Block {
		return []ssa.Block{block(jump(1), constant(10, u32(1))), block(jump(1), x)}
	}
	for i, c := range []struct {
		l    []ssa.Block
		want api.Errno
	}{
		{loop(named(ssa.Text, 50, "")), api.ErrFull}, {loop(named(ssa.Make, 50, "main.Leaf")), api.ErrFull}, {loop(named(ssa.Make, 50, "Array[x]")), api.ErrFull}, {loop(spawn(50, "main.Worker", "create", 10)), api.ErrFull}, {loop(named(ssa.Send, 50, "x", 0)), api.ErrFull}, {loop(ins(ssa.Is, 50, 0, 0)), api.ErrSteps},
	} {
		if s := step(t, 100000, c.l); s.end != spent(c.want) {
			t.Errorf("%d: %v, not %d", i, s.end, c.want)
		}
	}
}

// TestGreatNumbers: values may have any numbers.
func TestGreatNumbers(t *testing.T) {
	f := function("f", 1, block(yields(100000), constant(100000, u32(5))))
	s := step(t, 1000, []ssa.Block{block(yields(0), named(ssa.Direct, 99999, "f", 0), named(ssa.Set, 5, "k", 0, 99999))}, f)
	if s.end != rest || !alike(s.state.Actors[1].Fields[1], u32(5)) {
		t.Errorf("%v, %v", s.end, s.state.Actors[1].Fields)
	}
}

// TestIntrinsics: calls of numbers that are known become natives, unless the program has a method of its own.
func TestIntrinsics(t *testing.T) {
	loop := seq(assign("a", lit("1")), while(call("lt", local("a"), lit("3")), assign("a", call("mul", local("a"), lit("4"))), nothing))
	e := seq(loop, call("div_partial", local("a"), local("b")), call("string", local("a")), local("a"))
	count := func(p []api.Entity) (natives, calls int) {
		f, e := lower.Method(p, "main.Main", "go")
		if e != api.OK {
			t.Fatalf("error %d", e)
		}
		for _, b := range f.Blocks {
			for _, x := range b.Ins {
				switch x.Op {
				case ssa.Native:
					natives++
					typ, name, _ := strings.Cut(x.Text, ".")
					if l, e := num.Methods(typ); e != api.OK || !slices.ContainsFunc(l, func(m num.Signature) bool { return m.Name == name }) {
						t.Errorf("the native %s", x.Text)
					}
				case ssa.Call:
					calls++
				}
			}
		}
		return natives, calls
	}
	p := body(t, e)
	if natives, calls := count(p); natives != 2 || calls != 2 {
		t.Errorf("%d natives, %d calls", natives, calls)
	}
	q := walk.Program(p)
	m := method(q, "U32", "mul")
	m.Body, m.Params[0].Name = returns(local("that")), "that"
	if natives, calls := count(q); natives != 0 || calls != 4 {
		t.Errorf("with a method of its own: %d natives, %d calls", natives, calls)
	}
	for i, x := range [][]api.Entity{body(t, seq(loop, local("a"))), q} {
		if !compare(t, x, nil, nil, 500) {
			t.Errorf("%d: it does not come to rest", i)
		}
	}
}
