package meaning_test

import (
	"slices"
	"strings"
	"testing"

	"hackamore/api"
	"hackamore/meaning"
	"hackamore/world"
)

// locals are those with which expressions are evaluated in the tests: n has no value.
func locals() []meaning.Local {
	return []meaning.Local{{Name: "a", Value: u32(5)}, {Name: "n"}, {Name: "c", Value: object(2)}, {Name: "w", Value: actor(2)}, {Name: "m", Value: actor(1)}}
}

// evaluated is an expression with its outcome, and the fuel that it uses.
type evaluated struct {
	e    api.Expr
	want meaning.Outcome
	used int
}

// expect evaluates expressions, each in a world of its own, for the actor 1 with the Cell as the receiver.
func expect(t *testing.T, l ...evaluated) {
	t.Helper()
	for i, c := range l {
		w := begun(t)
		before := w.State()
		got := meaning.Eval(w, 1, object(2), c.e, locals(), 1000)
		if got.Used != c.used {
			t.Errorf("%d: used %d, not %d", i, got.Used, c.used)
		}
		got.Used, got.Locals = 0, nil
		if !alike(got, c.want) {
			t.Errorf("%d: %v, not %v", i, got, c.want)
		}
		if e := world.Check(w.State()); e != api.OK {
			t.Errorf("%d: the state is not right any more", i)
		}
		if c.used > 0 && c.want.Kind != meaning.Empty {
			w, _ = world.Load(before)
			less := meaning.Eval(w, 1, object(2), c.e, locals(), c.used-1)
			if less.Kind != meaning.Empty || less.Code != api.ErrSteps || less.Used != c.used-1 {
				t.Errorf("%d: with less fuel %v", i, less)
			}
			w, _ = world.Load(before)
			just := meaning.Eval(w, 1, object(2), c.e, locals(), c.used)
			if just.Used, just.Locals = 0, nil; !alike(just, c.want) {
				t.Errorf("%d: with just enough fuel %v", i, just)
			}
		}
	}
}

// TestExamples: those of the chapter.
func TestExamples(t *testing.T) {
	expect(t,
		evaluated{try(fails, one, returns(two)), result(u32(2)), 5},
		evaluated{while(no, one, three), value(u32(3)), 3},
		evaluated{assign("a", one), value(u32(5)), 2},
	)
	if o := meaning.Eval(begun(t), 1, none, one, nil, 0); !alike(o, empty(api.ErrSteps)) {
		t.Errorf("with the fuel 0: %v", o)
	}
}

// TestLiterals: numbers, Strings and Bools.
func TestLiterals(t *testing.T) {
	expect(t,
		evaluated{lit("7"), value(u32(7)), 1},
		evaluated{tx(api.OpLit, "-1.5", "F64 val"), value(number("F64", "-1.5")), 1},
		evaluated{tx(api.OpLit, "-7", "I128 ref"), value(number("I128", "-7")), 1},
		evaluated{lit("4294967296"), wrong(api.ErrRange), 1},
		evaluated{lit("x"), wrong(api.ErrForm), 1},
		evaluated{lit(strings.Repeat("0", 401)), wrong(api.ErrLarge), 1},
		evaluated{tx(api.OpLit, "7", "None val"), wrong(api.ErrNone), 1},
		evaluated{yes, value(truth(true)), 1},
		evaluated{no, value(truth(false)), 1},
		evaluated{tx(api.OpLit, "True", "Bool val"), wrong(api.ErrForm), 1},
		evaluated{tx(api.OpLit, "", "Bool val"), wrong(api.ErrForm), 1},
		evaluated{str("hi"), value(object(4)), 1},
		evaluated{str(long(20000)), value(object(4)), 1},
		evaluated{str(long(20001)), empty(api.ErrLarge), 1},
	)
	w := begun(t)
	if o := meaning.Eval(w, 1, none, str("a\xff"), nil, 9); o.Kind != meaning.Value || w.State().Cells[4].Bytes != "a\xff" || w.State().Cells[4].Owner != 1 {
		t.Errorf("a String: %v", o)
	}
	if o := meaning.Eval(w, 9, none, str("a"), nil, 9); !alike(o, meaning.Outcome{Kind: meaning.Wrong, Code: api.ErrNone, Used: 1}) {
		t.Errorf("a String of no actor: %v", o)
	}
}

// TestLocals: what is read, bound, assigned and consumed.
func TestLocals(t *testing.T) {
	expect(t,
		evaluated{local("a"), value(u32(5)), 1},
		evaluated{local("n"), wrong(world.ErrUnset), 1},
		evaluated{local("z"), wrong(api.ErrScope), 1},
		evaluated{this, value(object(2)), 1},
		evaluated{variable("z"), value(none), 1},
		evaluated{variable("z", one), value(none), 2},
		evaluated{tx(api.OpLet, "z", "U32 val", one), value(none), 2},
		evaluated{tx(api.OpLet, "", "U32 val", one), value(none), 2},
		evaluated{seq(variable("z", one), local("z")), value(u32(1)), 4},
		evaluated{seq(variable("z"), local("z")), wrong(world.ErrUnset), 3},
		evaluated{seq(variable("a"), local("a")), wrong(world.ErrUnset), 3},
		evaluated{seq(tx(api.OpLet, "a", "U32 val", two), local("a")), value(u32(2)), 4},
		evaluated{variable("z", bad), wrong(api.ErrScope), 2},
		evaluated{seq(variable("z", returns(one)), local("z")), result(u32(1)), 4},
		evaluated{seq(assign("a", one), local("a")), value(u32(1)), 4},
		evaluated{seq(assign("n", one), local("n")), value(u32(1)), 4},
		evaluated{assign("n", one), value(none), 2},
		evaluated{assign("z", one), wrong(api.ErrScope), 2},
		evaluated{assign("z", fails), raised(), 2},
		evaluated{assign("a", x(api.OpConsume, "a")), value(none), 2},
		evaluated{x(api.OpConsume, "a"), value(u32(5)), 1},
		evaluated{seq(x(api.OpConsume, "a"), local("a")), wrong(world.ErrUnset), 3},
		evaluated{x(api.OpConsume, "n"), wrong(world.ErrUnset), 1},
		evaluated{x(api.OpConsume, "z"), wrong(api.ErrScope), 1},
	)
}

// behind checks the local variables behind an evaluation.
func behind(t *testing.T, e api.Expr, ahead []meaning.Local, fuel int, want ...meaning.Local) {
	t.Helper()
	if o := meaning.Eval(begun(t), 1, object(2), e, ahead, fuel); !alike(o.Locals, want) {
		t.Errorf("behind %v: %v, not %v", e, o.Locals, want)
	}
}

// TestLocalsBehind: local variables behind an evaluation, whatever its outcome is.
func TestLocalsBehind(t *testing.T) {
	a, b := meaning.Local{Name: "a", Value: u32(1)}, meaning.Local{Name: "b", Value: u32(2)}
	is := func(name string, n int) meaning.Local { return meaning.Local{Name: name, Value: u32(n)} }
	behind(t, one, nil, 9)
	behind(t, one, []meaning.Local{a, b}, 9, a, b)
	behind(t, one, []meaning.Local{is("a", 7), b, is("a", 8), a}, 9, b, a)
	behind(t, seq(variable("c", three), variable("a", two)), []meaning.Local{a, b}, 9, is("a", 2), b, is("c", 3))
	behind(t, seq(variable("c"), assign("b", three), fails), []meaning.Local{a, b}, 9, a, is("b", 3), meaning.Local{Name: "c"})
	behind(t, seq(x(api.OpConsume, "a"), bad), []meaning.Local{a, b}, 9, meaning.Local{Name: "a"}, b)
	behind(t, seq(variable("c", three), variable("a", two)), []meaning.Local{a}, 3, a, is("c", 3))
	behind(t, match(one, cased("c", "U32 val", no, one), cased("", "Any tag", nothing, one)), []meaning.Local{a}, 9, a, is("c", 1))
	behind(t, match(one, cased("c", "U8 val", no, one)), []meaning.Local{a}, 9, a)
	behind(t, call("two", this, variable("z", one), two), []meaning.Local{a}, 9, a, is("z", 1))
	behind(t, one, []meaning.Local{{Name: "a", Value: api.Value{Kind: 99, Kids: []api.Value{{Lo: 3}}}}}, 9, meaning.Local{Name: "a", Value: api.Value{Kind: 99, Kids: []api.Value{{Lo: 3}}}})
}

// TestFields: Get and Set, of objects and actors.
func TestFields(t *testing.T) {
	get := func(name string, e api.Expr) api.Expr { return x(api.OpGet, name, e) }
	set := func(name string, a, b api.Expr) api.Expr { return x(api.OpSet, name, a, b) }
	expect(t,
		evaluated{get("n", this), value(u32(7)), 2},
		evaluated{get("o", this), wrong(world.ErrUnset), 2},
		evaluated{get("z", this), wrong(world.ErrMethod), 2},
		evaluated{get("n", one), wrong(world.ErrMethod), 2},
		evaluated{get("n", fails), raised(), 2},
		evaluated{get("n", local("w")), wrong(api.ErrCap), 2},
		evaluated{get("w", local("m")), wrong(world.ErrUnset), 2},
		evaluated{get("z", local("w")), wrong(api.ErrCap), 2},
		evaluated{set("n", this, one), value(u32(7)), 3},
		evaluated{set("o", this, one), value(none), 3},
		evaluated{set("z", this, one), wrong(world.ErrMethod), 3},
		evaluated{set("n", local("w"), one), wrong(api.ErrCap), 3},
		evaluated{set("n", local("w"), bad), wrong(api.ErrScope), 3},
		evaluated{set("w", local("m"), one), value(none), 3},
		evaluated{set("n", fails, bad), raised(), 2},
		evaluated{seq(set("n", this, one), get("n", local("c"))), value(u32(1)), 6},
	)
	w := begun(t)
	own := x(api.OpGet, "n", this)
	for actorOf, want := range map[int]meaning.Outcome{2: wrong(world.ErrUnset), 1: wrong(api.ErrCap), -1: wrong(api.ErrCap)} {
		o := meaning.Eval(w, actorOf, actor(2), own, nil, 9)
		if o.Used = 0; !alike(o, want) {
			t.Errorf("a field of the actor 2 for %d: %v", actorOf, o)
		}
	}
	if o := meaning.Eval(w, 0, actor(0), own, nil, 9); o.Code != world.ErrMethod {
		t.Errorf("a field of the actor 0 for itself: %v", o)
	}
	for _, v := range []api.Value{{Kind: api.ValActor, Lo: 1, Hi: 1}, object(99), {Kind: 18, Hi: 1}} {
		if o := meaning.Eval(w, 1, v, own, nil, 9); o.Kind != meaning.Wrong || o.Code != world.ErrBroken {
			t.Errorf("a field of %v: %v", v, o)
		}
	}
	if o := meaning.Eval(w, 1, object(2), set("n", this, local("b")), []meaning.Local{{Name: "b", Value: object(99)}}, 9); o.Code != world.ErrBroken {
		t.Errorf("a field becomes what is not right: %v", o)
	}
}

// TestControl: sequences, branches, loops.
func TestControl(t *testing.T) {
	expect(t,
		evaluated{seq(), value(none), 1},
		evaluated{seq(one, two), value(u32(2)), 3},
		evaluated{seq(one, fails, bad), raised(), 3},
		evaluated{when(yes, one, bad), value(u32(1)), 3},
		evaluated{when(no, bad, two), value(u32(2)), 3},
		evaluated{when(no, bad, nothing), value(none), 2},
		evaluated{when(one, two, three), wrong(api.ErrType), 2},
		evaluated{when(nix, two, three), wrong(api.ErrType), 2},
		evaluated{when(fails, two, three), raised(), 2},
		evaluated{when(yes, nothing, three), wrong(api.ErrForm), 3},
		evaluated{when(nothing, two, three), wrong(api.ErrForm), 2},
		evaluated{while(no, one, nothing), value(none), 2},
		evaluated{while(no, bad, three), value(u32(3)), 3},
		evaluated{while(one, two, three), wrong(api.ErrType), 2},
		evaluated{while(yes, breaks, three), value(none), 3},
		evaluated{while(breaks, one, three), value(none), 2},
		evaluated{while(yes, fails, three), raised(), 3},
		evaluated{while(yes, returns(one), three), result(u32(1)), 4},
		evaluated{while(fails, one, three), raised(), 2},
		evaluated{while(returns(two), one, three), result(u32(2)), 3},
		evaluated{while(no, one, breaks), of(meaning.Break), 3},
		evaluated{while(no, one, continues), of(meaning.Continue), 3},
		evaluated{while(continues, one, three), empty(api.ErrSteps), 1000},
		evaluated{while(yes, continues, three), empty(api.ErrSteps), 1000},
		evaluated{breaks, of(meaning.Break), 1},
		evaluated{continues, of(meaning.Continue), 1},
		evaluated{returns(), result(none), 1},
		evaluated{returns(one), result(u32(1)), 2},
		evaluated{returns(fails), raised(), 2},
		evaluated{returns(nothing), wrong(api.ErrForm), 2},
		evaluated{fails, raised(), 1},
		evaluated{x(api.OpRecover, "", one), wrong(api.ErrForm), 1},
		evaluated{tx(api.OpRecover, "", "this iso", one), value(u32(1)), 2},
		evaluated{tx(api.OpRecover, "", "this iso", breaks), of(meaning.Break), 2},
	)
	// A loop goes on while a is below 8: its body is what is left of the Kids.
	below := call("lt", local("a"), lit("8"))
	next := assign("a", call("add", local("a"), one))
	expect(t,
		evaluated{while(below, next, three), value(u32(7)), 1 + 3*7 + 3},
		evaluated{seq(while(below, next, three), local("a")), value(u32(8)), 3 + 3*7 + 3},
		evaluated{while(below, seq(next, when(call("eq", local("a"), lit("8")), continues, one)), three), value(none), 1 + 3*3 + 4*3 + 3*6 + 3},
		evaluated{while(below, seq(next, when(call("eq", local("a"), lit("7")), continues, two)), three), value(u32(2)), 1 + 3*3 + 4*3 + 3*6 + 3},
		evaluated{while(seq(next, when(call("eq", local("a"), lit("6")), continues, below)), local("a"), three), value(u32(7)), 1 + 3*(1+4+4) + 1 + 3 + 3 + 1},
		evaluated{while(seq(next, when(call("lt", local("a"), lit("9")), continues, no)), local("a"), three), value(u32(3)), 1 + 4*(1+4+4+1) + 1},
	)
}

// TestMatch: cases, guards, and what they bind.
func TestMatch(t *testing.T) {
	free := func(typ string, body api.Expr) api.Expr { return cased("", typ, nothing, body) }
	expect(t,
		evaluated{match(one), value(none), 2},
		evaluated{match(one, free("U8 val", bad), free("U32 val", two), free("Any tag", bad)), value(u32(2)), 3},
		evaluated{match(one, free("U8 val", bad)), value(none), 2},
		evaluated{match(this, free("main.Leaf ref", bad), free("main.Named box", two)), value(u32(2)), 3},
		evaluated{match(this, cased("z", "main.Cell iso", nothing, local("z"))), value(object(2)), 3},
		evaluated{match(one, cased("z", "U32 val", call("eq", local("z"), two), bad), cased("y", "U32 val", yes, local("z"))), value(u32(1)), 7},
		evaluated{match(one, cased("", "U32 val", no, bad), free("U32 val", two)), value(u32(2)), 4},
		evaluated{match(one, cased("", "U32 val", no, bad)), value(none), 3},
		evaluated{match(one, cased("", "U32 val", one, bad)), wrong(api.ErrType), 3},
		evaluated{match(one, cased("", "U32 val", fails, bad)), raised(), 3},
		evaluated{match(one, cased("", "U32 val", yes, fails)), raised(), 4},
		evaluated{match(one, cased("", "U32 val", nothing, nothing)), wrong(api.ErrForm), 3},
		evaluated{match(fails, free("U32 val", two)), raised(), 2},
		evaluated{match(one, two), wrong(api.ErrForm), 2},
		evaluated{match(one, nothing), wrong(api.ErrForm), 2},
		evaluated{match(one, free("U32 val", two), bad), value(u32(2)), 3},
		evaluated{match(one, free("U8 val", two), bad), wrong(api.ErrForm), 2},
		evaluated{match(one, x(api.OpCase, "", nothing, two)), wrong(api.ErrForm), 2},
		evaluated{match(one, tx(api.OpCase, "", "U32 val", two)), wrong(api.ErrForm), 2},
		evaluated{match(one, tx(api.OpCase, "", "U32 val", nothing, two, two)), wrong(api.ErrForm), 2},
		evaluated{free("U32 val", two), wrong(api.ErrForm), 1},
		evaluated{seq(free("U32 val", two)), wrong(api.ErrForm), 2},
		evaluated{match(tuple(one, this), free("(U32 val, main.Leaf ref)", bad), cased("z", "(Any tag, main.Cell ref)", nothing, x(api.OpItem, "0", local("z")))), value(u32(1)), 6},
	)
}

// TestTry: what comes of a try block, by the outcomes of its parts.
func TestTry(t *testing.T) {
	expect(t,
		evaluated{try(one, bad, nothing), value(u32(1)), 2},
		evaluated{try(one, bad, two), value(u32(1)), 3},
		evaluated{try(fails, two, nothing), value(u32(2)), 3},
		evaluated{try(fails, nothing, nothing), value(none), 2},
		evaluated{try(fails, nothing, three), value(none), 3},
		evaluated{try(fails, fails, three), raised(), 4},
		evaluated{try(fails, fails, nothing), raised(), 3},
		evaluated{try(one, nothing, fails), raised(), 3},
		evaluated{try(returns(one), two, three), result(u32(1)), 4},
		evaluated{try(returns(one), two, breaks), of(meaning.Break), 4},
		evaluated{try(breaks, two, three), of(meaning.Break), 3},
		evaluated{try(continues, two, three), of(meaning.Continue), 3},
		evaluated{try(continues, two, returns(three)), result(u32(3)), 4},
		evaluated{try(bad, two, returns(three)), wrong(api.ErrScope), 2},
		evaluated{try(fails, bad, returns(three)), wrong(api.ErrScope), 3},
		evaluated{try(fails, one, bad), wrong(api.ErrScope), 4},
		evaluated{try(str(long(20001)), two, returns(three)), empty(api.ErrLarge), 2},
		evaluated{try(seq(one, try(fails, fails, assign("a", one)), bad), local("a"), nothing), value(u32(1)), 9},
		evaluated{try(nothing, two, three), wrong(api.ErrForm), 2},
		evaluated{try(call("div_partial", one, lit("0")), two, three), value(u32(2)), 6},
	)
}

// TestValues: tuples, items, identity, units.
func TestValues(t *testing.T) {
	item := func(i string, e api.Expr) api.Expr { return x(api.OpItem, i, e) }
	expect(t,
		evaluated{tuple(one, tuple(two, this)), value(pair(u32(1), pair(u32(2), object(2)))), 5},
		evaluated{tuple(one, fails, bad), raised(), 3},
		evaluated{item("0", tuple(one, two)), value(u32(1)), 4},
		evaluated{item("1", tuple(one, two)), value(u32(2)), 4},
		evaluated{item("2", tuple(one, two)), wrong(api.ErrRange), 4},
		evaluated{item("-1", tuple(one, two)), wrong(api.ErrRange), 4},
		evaluated{item("01", tuple(one, two)), wrong(api.ErrRange), 4},
		evaluated{item("+1", tuple(one, two)), wrong(api.ErrRange), 4},
		evaluated{item("", tuple(one, two)), wrong(api.ErrRange), 4},
		evaluated{item("18446744073709551616", tuple(one, two)), wrong(api.ErrRange), 4},
		evaluated{item("x", one), wrong(api.ErrType), 2},
		evaluated{item("0", fails), raised(), 2},
		evaluated{x(api.OpIs, "", one, one), value(truth(true)), 3},
		evaluated{x(api.OpIs, "", one, two), value(truth(false)), 3},
		evaluated{x(api.OpIs, "", this, local("c")), value(truth(true)), 3},
		evaluated{x(api.OpIs, "", tuple(one, this), tuple(one, this)), value(truth(true)), 7},
		evaluated{x(api.OpIs, "", fails, bad), raised(), 2},
		evaluated{nix, value(none), 1},
		evaluated{tx(api.OpUnit, "", "main.Red val"), value(unit("main.Red")), 1},
		evaluated{tx(api.OpUnit, "", "x val"), value(unit("x")), 1},
	)
}

// TestForms: numbers of Kids and Types that are not as they should be, and what is no operation.
func TestForms(t *testing.T) {
	type shape struct{ types, kids []int }
	fixed := func(types int, kids ...int) shape { return shape{[]int{types}, kids} }
	all := []int{0, 1, 2, 3, 4, 5}
	shapes := map[int]shape{
		api.OpLit: fixed(1, 0), api.OpLocal: fixed(0, 0), api.OpThis: fixed(0, 0), api.OpGet: fixed(0, 1), api.OpSet: fixed(0, 2), api.OpVar: fixed(1, 0, 1), api.OpLet: fixed(1, 0, 1),
		api.OpAssign: fixed(0, 1), api.OpConsume: fixed(0, 0), api.OpSeq: fixed(0, all...), api.OpIf: fixed(0, 3), api.OpWhile: fixed(0, 3), api.OpMatch: fixed(0, 1, 2, 3, 4, 5), api.OpCase: {},
		api.OpTry: fixed(0, 3), api.OpError: fixed(0, 0), api.OpReturn: fixed(0, 0, 1), api.OpBreak: fixed(0, 0), api.OpContinue: fixed(0, 0), api.OpCall: {all, all[1:]}, api.OpNew: {all[1:], all},
		api.OpRecover: fixed(1, 1), api.OpTuple: fixed(0, 2, 3, 4, 5), api.OpItem: fixed(0, 1), api.OpIs: fixed(0, 2), api.OpUnit: fixed(1, 0),
	}
	w := begun(t)
	for op, s := range shapes {
		for types := range 6 {
			for kids := range 6 {
				e := api.Expr{Op: op, Kids: slices.Repeat([]api.Expr{one}, kids), Types: slices.Repeat([]api.Type{ty("U32 val")}, types)}
				o := meaning.Eval(w, 1, none, e, nil, 100)
				isWrong := o.Kind == meaning.Wrong && o.Code == api.ErrForm && o.Used == 1
				right := slices.Contains(s.types, types) && slices.Contains(s.kids, kids)
				if op == api.OpLit {
					e.Text = "1"
					isWrong = meaning.Eval(w, 1, none, e, nil, 100).Kind == meaning.Wrong
				}
				if right == isWrong {
					t.Errorf("op %d with %d types and %d kids: %v", op, types, kids, o)
				}
			}
		}
	}
	for _, op := range []int{0, -1, 27, 1 << 40, -1 << 63} {
		expect(t, evaluated{api.Expr{Op: op, Kids: []api.Expr{fails}}, wrong(api.ErrForm), 1})
	}
}

// untyped are an OpVar, an OpLet and an OpRecover with another number of Types than one.
func untyped() []api.Expr {
	two := []api.Type{ty("U32 val"), ty("U32 val")}
	return []api.Expr{
		x(api.OpVar, "z"), x(api.OpVar, "z", one), {Op: api.OpVar, Text: "z", Types: two}, x(api.OpLet, "z"), x(api.OpLet, "z", fails), {Op: api.OpLet, Text: "z", Types: two, Kids: []api.Expr{one}},
		x(api.OpRecover, "", one), x(api.OpRecover, "", fails), {Op: api.OpRecover, Types: two, Kids: []api.Expr{one}},
	}
}

// TestUntyped: what has one type by package api has it, also where no evaluation asks for it; ahead of all else.
func TestUntyped(t *testing.T) {
	for _, e := range untyped() {
		expect(t,
			evaluated{e, wrong(api.ErrForm), 1},
			evaluated{seq(one, e), wrong(api.ErrForm), 3},
			evaluated{try(e, two, returns(three)), wrong(api.ErrForm), 2},
			evaluated{when(no, e, two), value(u32(2)), 3},
		)
		p := program(t)
		method(p, "main.Cell", "get").Body = e
		method(p, "main.Main", "create").Body = seq(one, e)
		w := over(t, p)
		called(t, w, wrong(api.ErrForm), 1, object(2), "get")
		if used, end, ok := meaning.Step(w, 0, 99); used != 4 || !ok || end != (meaning.End{Kind: meaning.Stuck, Actor: 1, Code: api.ErrForm}) {
			t.Errorf("Step: %d, %v, %v", used, end, ok)
		}
		if _, end := meaning.Run(p, nil, nil, 99); end != (meaning.End{Kind: meaning.Stuck, Actor: 1, Code: api.ErrForm}) {
			t.Errorf("Run: %v", end)
		}
	}
}

// TestLimits: expressions that are too large, fuel, and worlds that are nil.
func TestLimits(t *testing.T) {
	w := begun(t)
	wide := func(n int) api.Expr { return seq(slices.Repeat([]api.Expr{one}, n-1)...) }
	deep := func(n int) api.Expr {
		e := one
		for range n - 1 {
			e = seq(e)
		}
		return e
	}
	for i, c := range []struct {
		e    api.Expr
		fuel int
		want meaning.Outcome
		used int
	}{
		{wide(4000), 100000, value(u32(1)), 4000}, {wide(4001), 100000, wrong(api.ErrForm), 0}, {deep(100), 100, value(u32(1)), 100}, {deep(101), 1000, wrong(api.ErrForm), 0},
		{wide(4001), 0, wrong(api.ErrForm), 0}, {one, -1, empty(api.ErrSteps), 0}, {one, -1 << 63, empty(api.ErrSteps), 0}, {while(continues, one, nothing), 1 << 62, empty(api.ErrSteps), 100000},
	} {
		o := meaning.Eval(w, 1, none, c.e, nil, c.fuel)
		if o.Used != c.used {
			t.Errorf("%d: used %d, not %d", i, o.Used, c.used)
		}
		if o.Used = 0; !alike(o, c.want) {
			t.Errorf("%d: %v, not %v", i, o, c.want)
		}
	}
	if o := meaning.Eval(nil, 1, none, one, nil, 9); !alike(o, wrong(api.ErrArg)) {
		t.Errorf("Eval without a world: %v", o)
	}
	if o := meaning.Call(nil, 1, none, "x", nil, 9); !alike(o, wrong(api.ErrArg)) {
		t.Errorf("Call without a world: %v", o)
	}
}

// TestOwnMemory: what is handed in stays as it is, and what is handed back is of its own.
func TestOwnMemory(t *testing.T) {
	w := begun(t)
	l := []meaning.Local{{Name: "p", Value: pair(u32(1), pair(u32(2), u32(3)))}}
	e := seq(x(api.OpSet, "o", this, local("p")), variable("q", local("p")), tuple(local("p"), local("q")))
	o := meaning.Eval(w, 1, object(2), e, l, 99)
	want := pair(u32(1), pair(u32(2), u32(3)))
	o.Value.Kids[0].Kids[1].Kids[0] = none
	o.Locals[0].Value.Kids[1].Kids[1] = none
	got, _ := w.Get(object(2), "o")
	for _, v := range []api.Value{l[0].Value, o.Value.Kids[1], o.Locals[1].Value, got} {
		if !alike(v, want) {
			t.Errorf("shared memory: %v", v)
		}
	}
}
