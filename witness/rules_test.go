package witness_test

import (
	"slices"
	"strconv"
	"strings"
	"testing"

	"hackamore/api"
	"hackamore/graphs"
	"hackamore/optimize"
	"hackamore/ssa"
	"hackamore/witness"
)

// Short names for what functions are made of.
var (
	ins      = graphs.Ins
	text     = graphs.Text
	item     = graphs.Item
	number   = graphs.Const
	truth    = graphs.Truth
	typed    = graphs.Typed
	jump     = graphs.Jump
	branch   = graphs.Branch
	returns  = graphs.Return
	attempt  = graphs.Try
	block    = graphs.Block
	function = graphs.Function
	name     = graphs.Name
)

func u8(n int) api.Value { return api.Value{Kind: 16, Lo: uint64(n)} }

func is(b bool) api.Value { return truth(0, b).Lit }

// one returns a program of one function with two parameters.
func one(l ...ssa.Block) ssa.Program {
	return ssa.Program{Funcs: []ssa.Func{function("f", 2, l...)}}
}

// leads checks the program behind a step.
func leads(t *testing.T, what string, p ssa.Program, s optimize.Step, want ssa.Program) {
	t.Helper()
	q, e := witness.Apply(p, s)
	if e != api.OK || !alike(q, want) {
		text, _ := ssa.Print(q.Funcs)
		t.Errorf("%s: error %d\n%s", what, e, text)
	}
	if n, e := witness.Check(p, want, []optimize.Step{s}); n != 0 || e != api.OK {
		t.Errorf("%s: Check: error %d at %d", what, e, n)
	}
}

// refused checks that steps may not be done.
func refused(t *testing.T, what string, p ssa.Program, l ...optimize.Step) {
	t.Helper()
	for _, s := range l {
		if q, e := witness.Apply(p, s); e != witness.ErrRule || !alike(q, ssa.Program{}) {
			t.Errorf("%s: %v: error %d", what, s, e)
		}
		if n, e := witness.Check(p, p, []optimize.Step{s}); n != 0 || e != witness.ErrRule {
			t.Errorf("%s: Check of %v: error %d at %d", what, s, e, n)
		}
	}
}

func copies(a, b int) optimize.Step { return optimize.Step{Kind: optimize.StepCopy, A: a, B: b} }

func folds1(a int, lit api.Value) optimize.Step {
	return optimize.Step{Kind: optimize.StepFold, A: a, Lit: lit}
}

func common(a, b int) optimize.Step { return optimize.Step{Kind: optimize.StepCommon, A: a, B: b} }

func drop(a int) optimize.Step { return optimize.Step{Kind: optimize.StepDrop, A: a} }

func decide(a, b int) optimize.Step { return optimize.Step{Kind: optimize.StepBranch, A: a, B: b} }

func join(a int) optimize.Step { return optimize.Step{Kind: optimize.StepJoin, A: a} }

func inline(a int) optimize.Step { return optimize.Step{Kind: optimize.StepInline, A: a} }

func direct(a int, s string) optimize.Step {
	return optimize.Step{Kind: optimize.StepDirect, A: a, Text: s}
}

func stack(a int) optimize.Step { return optimize.Step{Kind: optimize.StepStack, A: a} }

func field(a, b int) optimize.Step { return optimize.Step{Kind: optimize.StepField, A: a, B: b} }

// TestExamples: those of the chapter.
func TestExamples(t *testing.T) {
	p := one(block(branch(0, 1, 1)), block(returns(3), ins(ssa.Phi, 3, 1, 1)))
	leads(t, "v3 is v1", p, copies(3, 1), one(block(branch(0, 1, 1)), block(returns(1), ins(ssa.Phi, 3, 1, 1))))
	q, _ := witness.Apply(p, copies(3, 1))
	leads(t, "v3 goes", q, drop(3), one(block(branch(0, 1, 1)), block(returns(1))))
	sum := one(block(returns(4), number(2, 200), number(3, 100), text(ssa.Native, 4, "U8.add", 2, 3)))
	leads(t, "U8.add", sum, folds1(4, u8(44)), one(block(returns(4), number(2, 200), number(3, 100), number(4, 44))))
	refused(t, "U8.add", sum, folds1(4, u8(45)), folds1(4, u8(300)))
	refused(t, "an object that is returned", one(block(returns(2), text(ssa.Make, 2, "A"))), stack(2))
}

// TestCopy: phis and items.
func TestCopy(t *testing.T) {
	loop := one(block(jump(1)), block(branch(0, 1, 2), ins(ssa.Phi, 2, 1, 2)), block(returns(2), text(ssa.Call, 3, "m", 2, 0, 2)))
	leads(t, "a phi of itself", loop, copies(2, 1), one(block(jump(1)), block(branch(0, 1, 2), ins(ssa.Phi, 2, 1, 1)), block(returns(1), text(ssa.Call, 3, "m", 1, 0, 1))))
	refused(t, "a phi of itself", loop, copies(2, 0), copies(2, 2), copies(1, 2), copies(3, 1), copies(3, 2), copies(9, 1), copies(-1, 1), copies(2, -1), copies(0, 1))
	two := one(block(branch(0, 1, 1)), block(returns(2), ins(ssa.Phi, 2, 1, 0)))
	refused(t, "a phi of two values", two, copies(2, 1), copies(2, 0))
	tuple := one(block(attempt(text(ssa.Call, 5, "m", 3), 1, 2), ins(ssa.Tuple, 2, 1, 0), item(3, 1, 2), item(4, 2, 2)), block(returns(3)), block(returns(4)))
	leads(t, "an item", tuple, copies(3, 0), one(block(attempt(text(ssa.Call, 5, "m", 0), 1, 2), ins(ssa.Tuple, 2, 1, 0), item(3, 1, 2), item(4, 2, 2)), block(returns(0)), block(returns(4))))
	refused(t, "an item", tuple, copies(3, 1), copies(4, 0), copies(4, 1), copies(5, 3), copies(2, 1))
	refused(t, "an item of what is no tuple", one(block(returns(3), ins(ssa.Is, 2, 0, 0), item(3, 0, 2), item(4, 0, 1))), copies(3, 0), copies(4, 1))
	leads(t, "a phi that nobody needs", one(block(jump(1)), block(returns(0), ins(ssa.Phi, 2, 1))), copies(2, 1), one(block(jump(1)), block(returns(0), ins(ssa.Phi, 2, 1))))
}

// TestFold: natives and comparisons over constants.
func TestFold(t *testing.T) {
	u := name("U8")
	p := one(block(returns(0), number(2, 3), number(3, 4), number(4, 3), typed(ins(ssa.Is, 5, 2, 4), u), ins(ssa.Is, 6, 2, 3), ins(ssa.Is, 7, 2, 0), text(ssa.Native, 8, "U8.lt", 2, 3), text(ssa.Native, 9, "U8.add_partial", 2, 3),
		text(ssa.Native, 10, "U8.sub_partial", 2, 3), text(ssa.Native, 11, "add", 2, 3), text(ssa.Native, 12, "U8.x.add", 2, 3), text(ssa.Native, 13, "U8.add", 2), text(ssa.Native, 14, "U8.add", 2, 0), text(ssa.Native, 15, "I8.add", 2, 3), text(ssa.Native, 16, "U8.string", 2),
		text(ssa.Call, 17, "U8.add", 2, 3), ins(ssa.Tuple, 18, 2, 3), text(ssa.Native, 19, "U8.neg", 2), text(ssa.Native, 20, "None")))
	become := func(a int, lit api.Value, typ api.Type) ssa.Program {
		q := one(block(returns(0), slices.Clone(p.Funcs[0].Blocks[0].Ins)...))
		i := slices.IndexFunc(q.Funcs[0].Blocks[0].Ins, func(x ssa.Ins) bool { return x.Result == a })
		q.Funcs[0].Blocks[0].Ins[i] = ssa.Ins{Op: ssa.Const, Result: a, Lit: lit, Type: typ}
		return q
	}
	leads(t, "is", p, folds1(5, is(true)), become(5, is(true), u))
	leads(t, "is not", p, folds1(6, is(false)), become(6, is(false), api.Type{}))
	leads(t, "lt", p, folds1(8, is(true)), become(8, is(true), api.Type{}))
	leads(t, "add_partial", p, folds1(9, u8(7)), become(9, u8(7), api.Type{}))
	leads(t, "neg", p, folds1(19, u8(253)), become(19, u8(253), api.Type{}))
	odd := is(true)
	odd.Hi = 1
	refused(t, "fold", p, folds1(5, is(false)), folds1(5, odd), folds1(5, u8(1)), folds1(6, is(true)), folds1(7, is(false)), folds1(8, is(false)), folds1(10, u8(255)), folds1(10, api.Value{}), folds1(11, u8(7)), folds1(12, u8(7)), folds1(13, u8(3)),
		folds1(14, u8(3)), folds1(15, u8(7)), folds1(16, api.Value{}), folds1(17, u8(7)), folds1(18, api.Value{Kind: 5, Kids: []api.Value{u8(3), u8(4)}}), folds1(2, u8(3)), folds1(0, u8(3)), folds1(99, u8(3)), folds1(20, api.Value{}))
}

// TestCommon: instructions that are alike.
func TestCommon(t *testing.T) {
	p := one(block(branch(0, 1, 2), ins(ssa.Is, 2, 0, 1), ins(ssa.Is, 3, 0, 1), ins(ssa.Is, 4, 1, 0)), block(returns(5), ins(ssa.Tuple, 5, 2, 3)), block(returns(6), ins(ssa.Tuple, 6, 2, 3)))
	behind := one(block(branch(0, 1, 2), ins(ssa.Is, 2, 0, 1), ins(ssa.Is, 4, 1, 0)), block(returns(5), ins(ssa.Tuple, 5, 2, 2)), block(returns(6), ins(ssa.Tuple, 6, 2, 2)))
	leads(t, "two comparisons", p, common(3, 2), behind)
	leads(t, "the later one stays", p, common(2, 3), one(block(branch(0, 1, 2), ins(ssa.Is, 3, 0, 1), ins(ssa.Is, 4, 1, 0)), block(returns(5), ins(ssa.Tuple, 5, 3, 3)), block(returns(6), ins(ssa.Tuple, 6, 3, 3))))
	refused(t, "instructions that are not alike", p, common(2, 2), common(2, 4), common(5, 6), common(6, 5), common(2, 0), common(0, 1), common(2, 9), common(-1, 2))
	used := one(block(returns(4), number(2, 1), text(ssa.Call, 3, "m", 2), number(5, 1), ins(ssa.Is, 4, 5, 0)))
	refused(t, "a value that comes too late", used, common(2, 5))
	leads(t, "nobody needs the one of another way", one(block(branch(0, 1, 2)), block(returns(0), number(2, 1)), block(returns(3), number(3, 1))), common(2, 3), one(block(branch(0, 1, 2)), block(returns(0)), block(returns(3), number(3, 1))))
	phis := one(block(branch(0, 1, 1)), block(branch(2, 1, 2), ins(ssa.Phi, 2, 0, 1, 3), ins(ssa.Phi, 3, 0, 1, 3), ins(ssa.Phi, 4, 0, 1, 2)), block(returns(5), ins(ssa.Phi, 5, 3), ins(ssa.Phi, 6, 3)))
	leads(t, "phis of one block", phis, common(3, 2), one(block(branch(0, 1, 1)), block(branch(2, 1, 2), ins(ssa.Phi, 2, 0, 1, 2), ins(ssa.Phi, 4, 0, 1, 2)), block(returns(5), ins(ssa.Phi, 5, 2), ins(ssa.Phi, 6, 2))))
	leads(t, "phis that nobody needs", phis, common(6, 5), one(block(branch(0, 1, 1)), block(branch(2, 1, 2), ins(ssa.Phi, 2, 0, 1, 3), ins(ssa.Phi, 3, 0, 1, 3), ins(ssa.Phi, 4, 0, 1, 2)), block(returns(5), ins(ssa.Phi, 5, 3))))
	refused(t, "phis", phis, common(4, 2), common(2, 5))
	ways := one(block(branch(0, 1, 2)), block(jump(3), ins(ssa.Phi, 2, 1)), block(jump(3), ins(ssa.Phi, 3, 1)), block(returns(0)))
	refused(t, "phis of two blocks", ways, common(2, 3), common(3, 2))
	for i, x := range []ssa.Ins{text(ssa.Text, 2, "a"), text(ssa.Make, 2, "A"), text(ssa.Get, 2, "x", 0), text(ssa.Set, 2, "x", 0, 1), text(ssa.Call, 2, "m", 0), text(ssa.Send, 2, "m", 0), text(ssa.Load, 2, "x"), text(ssa.Store, 2, "x", 0)} {
		y := x
		y.Result = 3
		refused(t, "what is not pure "+strconv.Itoa(i), one(block(returns(0), x, y)), common(2, 3), common(3, 2))
	}
	x := typed(ssa.Ins{Op: ssa.Const, Result: 2, Lit: api.Value{Kind: 5, Kids: []api.Value{u8(1), u8(2)}}}, name("A"))
	y := typed(ssa.Ins{Op: ssa.Const, Result: 3, Lit: api.Value{Kind: 5, Kids: []api.Value{u8(1), u8(2)}}}, name("A"))
	leads(t, "consts", one(block(returns(3), x, y)), common(3, 2), one(block(returns(2), x)))
	refused(t, "consts of other types", one(block(returns(3), x, typed(y, name("B")))), common(3, 2))
	y.Lit.Kids = []api.Value{u8(1), u8(3)}
	refused(t, "other consts", one(block(returns(3), x, y)), common(3, 2))
	refused(t, "other items", one(block(returns(3), item(2, 0, 1), item(3, 1, 1))), common(3, 2))
	refused(t, "other natives", one(block(returns(3), text(ssa.Native, 2, "U8.a", 1), text(ssa.Native, 3, "U8.b", 1))), common(3, 2))
}

// TestDrop: what nobody needs.
func TestDrop(t *testing.T) {
	for i, x := range []ssa.Ins{
		number(2, 1), text(ssa.Text, 2, "a"), text(ssa.Load, 2, "x"), text(ssa.Get, 2, "x", 0), text(ssa.Make, 2, "A"), text(ssa.Native, 2, "U8.add", 0), ins(ssa.Tuple, 2, 0, 1), item(2, 0, 1), ins(ssa.Is, 2, 0, 1), ins(ssa.Fits, 2, 1),
		text(ssa.Store, 2, "x", 0), text(ssa.Set, 2, "x", 0, 1), text(ssa.Call, 2, "m", 0), text(ssa.Direct, 2, "f", 0, 0), {Op: ssa.Spawn, Result: 2, Text: "c", Name: "W"}, text(ssa.Send, 2, "m", 0),
	} {
		p := one(block(returns(0), x))
		if i < 10 {
			leads(t, "drop", p, drop(2), one(block(returns(0))))
			refused(t, "a value that is needed", one(block(returns(2), x)), drop(2))
			refused(t, "a value that a call needs", one(block(attempt(text(ssa.Call, 3, "m", 2), 1, 2), x), block(returns(0)), block(returns(0))), drop(2))
		} else {
			refused(t, "what has an effect", p, drop(2))
		}
		if e := map[bool]int{true: 1}[witness.Pure(x)]; (e == 1) != slices.Contains([]int{0, 5, 6, 7, 8, 9}, i) {
			t.Errorf("Pure of %v", x)
		}
	}
	loop := one(block(jump(1)), block(branch(0, 1, 2), ins(ssa.Phi, 2, 1, 2), ins(ssa.Phi, 3, 1, 4), ins(ssa.Phi, 4, 1, 3)), block(returns(0)))
	leads(t, "a phi of itself", loop, drop(2), one(block(jump(1)), block(branch(0, 1, 2), ins(ssa.Phi, 3, 1, 4), ins(ssa.Phi, 4, 1, 3)), block(returns(0))))
	refused(t, "phis of each other", loop, drop(3), drop(4), drop(0), drop(9), drop(-1))
	refused(t, "a try", one(block(attempt(text(ssa.Call, 3, "m", 1), 1, 2)), block(returns(0)), block(returns(0))), drop(3))
	if witness.Pure(ssa.Ins{}) || witness.Pure(ssa.Ins{Op: 99}) || witness.Pure(ins(ssa.Phi, 2)) {
		t.Error("Pure of what is no such instruction")
	}
}

// TestBranch: branches that go one way.
func TestBranch(t *testing.T) {
	p := func(c ssa.Ins) ssa.Program {
		return one(block(branch(2, 1, 3), c), block(jump(2), number(3, 3)), block(branch(0, 2, 3), ins(ssa.Phi, 4, 3, 0)), block(returns(5), ins(ssa.Phi, 5, 2, 4)))
	}
	leads(t, "true", p(truth(2, true)), decide(0, 0), one(block(jump(1), truth(2, true)), block(jump(2), number(3, 3)), block(branch(0, 2, 3), ins(ssa.Phi, 4, 3, 0)), block(returns(5), ins(ssa.Phi, 5, 4))))
	leads(t, "false", p(truth(2, false)), decide(0, 1), one(block(jump(1), truth(2, false)), block(returns(5), ins(ssa.Phi, 5, 2))))
	odd := truth(2, true)
	odd.Lit.Hi = 1
	refused(t, "true", p(truth(2, true)), decide(0, 1), decide(0, 2), decide(0, -1), decide(1, 0), decide(2, 0), decide(3, 0), decide(4, 0), decide(-1, 0))
	refused(t, "false", p(truth(2, false)), decide(0, 0))
	refused(t, "what is no Bool", p(odd), decide(0, 0), decide(0, 1))
	refused(t, "what is no const", p(ins(ssa.Is, 2, 0, 0)), decide(0, 0), decide(0, 1))
	refused(t, "a number", p(number(2, 1)), decide(0, 0), decide(0, 1))
	same := func(args ...int) ssa.Program {
		return one(block(branch(0, 1, 1)), block(branch(0, 1, 2), ins(ssa.Phi, 2, args...)), block(returns(2)))
	}
	leads(t, "one block by both ways", same(1, 1, 0), decide(0, 0), one(block(jump(1)), block(branch(0, 1, 2), ins(ssa.Phi, 2, 1, 0)), block(returns(2))))
	refused(t, "one block by both ways", same(1, 1, 0), decide(0, 1))
	refused(t, "other values by both ways", same(1, 0, 0), decide(0, 0), decide(0, 1))
	known := same(1, 0, 0)
	known.Funcs[0].Blocks[0] = block(branch(3, 1, 1), truth(3, false))
	leads(t, "the second way to one block", known, decide(0, 1), one(block(jump(1), truth(3, false)), block(branch(0, 1, 2), ins(ssa.Phi, 2, 0, 0)), block(returns(2))))
	refused(t, "the first way to one block", known, decide(0, 0))
}

// TestJoin: blocks that become parts of others.
func TestJoin(t *testing.T) {
	p := one(block(jump(3), number(2, 1)), block(returns(5), ins(ssa.Phi, 5, 3, 0)), block(jump(1)), block(branch(3, 1, 2), ins(ssa.Phi, 3, 2), number(4, 4)))
	leads(t, "a block that stands behind", p, join(0), one(block(branch(2, 1, 2), number(2, 1), number(4, 4)), block(returns(5), ins(ssa.Phi, 5, 0, 2)), block(jump(1))))
	refused(t, "blocks", p, join(1), join(2), join(3), join(4), join(-1))
	// The ways to the block 1 come in another order, as its first one comes from the block 3 then.
	order := one(block(branch(0, 3, 4)), block(returns(2), ins(ssa.Phi, 2, 3, 5)), block(jump(1), number(3, 3)), block(jump(2)), block(jump(1), number(5, 5)))
	leads(t, "another order", order, join(3), one(block(branch(0, 2, 3)), block(returns(2), ins(ssa.Phi, 2, 3, 5)), block(jump(1), number(3, 3)), block(jump(1), number(5, 5))))
	turned := one(block(branch(0, 4, 3)), block(returns(2), ins(ssa.Phi, 2, 3, 5)), block(jump(1), number(3, 3)), block(jump(1), number(5, 5)), block(jump(2)))
	leads(t, "the other order", turned, join(4), one(block(branch(0, 3, 2)), block(returns(2), ins(ssa.Phi, 2, 5, 3)), block(jump(1), number(5, 5)), block(jump(1), number(3, 3))))
	twice := one(block(jump(2)), block(returns(2), ins(ssa.Phi, 2, 0, 1)), block(branch(0, 1, 1)))
	leads(t, "two ways", twice, join(0), one(block(branch(0, 1, 1)), block(returns(2), ins(ssa.Phi, 2, 0, 1))))
	back := one(block(jump(1)), block(jump(2), ins(ssa.Phi, 2, 0, 3)), block(branch(2, 1, 3), number(3, 1)), block(returns(3)))
	leads(t, "a loop", back, join(1), one(block(jump(1)), block(branch(2, 1, 2), ins(ssa.Phi, 2, 0, 3), number(3, 1)), block(returns(3))))
	refused(t, "a loop", back, join(0))
	refused(t, "a block that jumps to itself", one(block(branch(0, 1, 2)), block(jump(1)), block(returns(0))), join(1))
	failing := one(block(jump(1)), block(attempt(text(ssa.Call, 2, "m", 0), 2, 3)), block(returns(2)), block(jump(3)))
	leads(t, "a try", failing, join(0), one(block(attempt(text(ssa.Call, 2, "m", 0), 1, 2)), block(returns(2)), block(jump(2))))
}

// TestInline: functions in the place of calls.
func TestInline(t *testing.T) {
	callee := function("g", 2, block(branch(1, 1, 2), number(9, 1)), block(jump(3)), block(returns(9)), block(attempt(text(ssa.Call, 7, "m", 0), 4, 1), ins(ssa.Phi, 5, 9)), block(returns(7)))
	caller := function("f", 2, block(jump(1)), block(branch(3, 1, 2), ins(ssa.Phi, 2, 0, 3), number(8, 2), typed(text(ssa.Direct, 3, "g", 8, 2), name("A")), ins(ssa.Is, 4, 3, 8)), block(returns(4)))
	p := ssa.Program{Funcs: []ssa.Func{caller, callee}}
	callee.Blocks[3].Ins = nil
	p.Funcs[1] = function("g", 2, block(branch(1, 1, 2), number(9, 1)), block(jump(3)), block(returns(9)), block(attempt(text(ssa.Call, 7, "m", 0), 4, 5)), block(returns(7)), block(jump(5)))
	want := ssa.Program{Funcs: []ssa.Func{function("f", 2,
		block(jump(1)), block(jump(2), ins(ssa.Phi, 2, 0, 3), number(8, 2)),
		block(branch(2, 3, 4), number(9, 1)), block(jump(5)), block(jump(8)), block(attempt(text(ssa.Call, 10, "m", 8), 6, 7)), block(jump(8)), block(jump(7)),
		block(branch(3, 1, 9), typed(ins(ssa.Phi, 3, 9, 10), name("A")), ins(ssa.Is, 4, 3, 8)), block(returns(4))), p.Funcs[1]}}
	leads(t, "a function", p, inline(3), want)
	refused(t, "what is no call", p, inline(2), inline(4), inline(8), inline(0), inline(99))
	with := func(g ssa.Func) ssa.Program {
		g.Name = "g"
		return ssa.Program{Funcs: []ssa.Func{function("f", 2, block(returns(2), text(ssa.Direct, 2, "g", 0, 1))), g}}
	}
	leads(t, "the second parameter", with(function("", 2, block(returns(1)))), inline(2), ssa.Program{Funcs: []ssa.Func{function("f", 2, block(jump(1)), block(jump(2)), block(returns(2), ins(ssa.Phi, 2, 1))), function("g", 2, block(returns(1)))}})
	partial := function("", 2, block(returns(0)))
	partial.Partial = true
	for i, g := range []ssa.Func{
		partial, function("", 2, block(graphs.Stuck())), function("", 2, block(branch(0, 1, 2)), block(returns(0)), block(graphs.Fails())), function("", 2, block(returns(0), text(ssa.Store, 2, "x", 0))), function("", 2, block(returns(0), text(ssa.Load, 2, "x"))),
	} {
		refused(t, "a function that may not be inlined "+strconv.Itoa(i), with(g), inline(2))
	}
	self := ssa.Program{Funcs: []ssa.Func{function("f", 2, block(returns(2), text(ssa.Direct, 2, "f", 0, 1)))}}
	refused(t, "a function in itself", self, inline(2))
	tried := with(function("", 2, block(returns(0))))
	tried.Funcs[0].Blocks = []ssa.Block{block(attempt(text(ssa.Direct, 2, "g", 0, 1), 1, 2)), block(returns(0)), block(returns(0))}
	refused(t, "a try", tried, inline(2))
	great := with(function("", 2, block(returns(2), number(2, 1))))
	great.Funcs[0].Blocks[0] = block(returns(100000), text(ssa.Direct, 100000, "g", 0, 1))
	refused(t, "values that are too great", great, inline(100000))
	great.Funcs[1] = function("g", 2, block(returns(0)))
	if _, e := witness.Apply(great, inline(100000)); e != api.OK {
		t.Errorf("a great value: error %d", e)
	}
	chain := function("g", 2)
	for i := range 399 {
		chain.Blocks = append(chain.Blocks, block(jump(i+1)))
	}
	chain.Blocks = append(chain.Blocks, block(returns(0)))
	refused(t, "too many blocks", with(chain), inline(2))
}

// TestDirect: calls that can reach one function alone.
func TestDirect(t *testing.T) {
	p := func(typ api.Type, args ...int) ssa.Program {
		f := function("f", 2, block(attempt(text(ssa.Call, 3, "m", 1), 1, 2), typed(number(4, 1), name("A")), text(ssa.Call, 2, "n", append([]int{4}, args...)...)), block(returns(3)), block(returns(0)))
		f.Params[1] = typ
		return ssa.Program{Entities: graphs.Entities(), Funcs: []ssa.Func{f, function("A.m", 1, block(returns(0))), function("B.m", 1, block(returns(0))), function("A.n", 1, block(returns(0)))}}
	}
	behind := p(name("A"))
	behind.Funcs[0].Blocks[0].End.Call = text(ssa.Direct, 3, "A.m", 1)
	leads(t, "a try", p(name("A")), direct(3, "A.m"), behind)
	behind = p(name("A"))
	behind.Funcs[0].Blocks[0].Ins[1] = text(ssa.Direct, 2, "A.n", 4)
	leads(t, "a call", p(name("A")), direct(2, "A.n"), behind)
	refused(t, "other functions", p(name("A")), direct(3, "B.m"), direct(3, "A.n"), direct(3, ""), direct(3, "none"), direct(2, "A.m"), direct(4, "A.m"), direct(0, "A.m"), direct(9, "A.m"))
	refused(t, "two functions", p(name("T")), direct(3, "A.m"), direct(3, "B.m"))
	refused(t, "a type that is none", p(api.Type{}), direct(3, "A.m"))
	refused(t, "nothing", p(name("none")), direct(3, "A.m"))
	refused(t, "another number of arguments", p(name("A"), 0), direct(2, "A.n"))
	refused(t, "a call that is direct", behind, direct(2, "A.n"))
}

// TestStackAndField: objects that are met in their function alone.
func TestStackAndField(t *testing.T) {
	make2 := func(flag bool) ssa.Ins {
		x := text(ssa.Make, 2, "A")
		x.Flag = flag
		return x
	}
	p := func(flag bool, end ssa.End, more ...ssa.Ins) ssa.Program {
		l := []ssa.Ins{make2(flag), text(ssa.Set, 3, "x", 2, 0), text(ssa.Get, 4, "x", 2), text(ssa.Get, 5, "y", 2), ins(ssa.Is, 6, 2, 2), ins(ssa.Fits, 7, 2)}
		return one(block(end, append(l, more...)...), block(returns(0)), block(returns(0)))
	}
	ways := branch(0, 1, 2)
	leads(t, "an object", p(false, ways), stack(2), p(true, ways))
	refused(t, "an object with the flag", p(true, ways), stack(2))
	refused(t, "what is no object", p(false, ways), stack(3), stack(0), stack(9))
	without := func(gone, a, b int, q ssa.Program) ssa.Program {
		l := &q.Funcs[0].Blocks[0].Ins
		*l = slices.DeleteFunc(*l, func(x ssa.Ins) bool { return x.Result == gone })
		for i := range *l {
			for j, v := range (*l)[i].Args {
				if v == a {
					(*l)[i].Args[j] = b
				}
			}
		}
		return q
	}
	more := []ssa.Ins{text(ssa.Get, 10, "x", 2), text(ssa.Get, 11, "y", 2), ins(ssa.Tuple, 12, 10, 11, 4)}
	fresh := func() ssa.Program {
		return p(true, ways, text(ssa.Get, 10, "x", 2), text(ssa.Get, 11, "y", 2), ins(ssa.Tuple, 12, 10, 11, 4))
	}
	leads(t, "what was written", p(true, ways, more...), field(4, 0), without(4, 4, 0, fresh()))
	leads(t, "what was read", p(true, ways, more...), field(11, 5), without(11, 11, 5, fresh()))
	leads(t, "what was read of what was written", p(true, ways, more...), field(10, 4), without(10, 10, 4, fresh()))
	refused(t, "fields", p(true, ways, more...), field(10, 0), field(4, 1), field(5, 0), field(11, 0), field(3, 0), field(2, 0), field(0, 1), field(99, 0))
	other := one(block(jump(1), make2(false), text(ssa.Set, 3, "x", 2, 0)), block(returns(4), text(ssa.Get, 4, "x", 2)))
	refused(t, "what was written in another block", other, field(4, 0))
	for i, q := range []ssa.Program{
		p(false, returns(2)), p(false, ways, text(ssa.Set, 10, "x", 0, 2)), p(false, ways, text(ssa.Set, 10, "x", 2, 2)), p(false, ways, ins(ssa.Tuple, 10, 2, 0)), p(false, ways, text(ssa.Call, 10, "m", 2)), p(false, ways, text(ssa.Send, 10, "m", 0, 2)),
		p(false, ways, text(ssa.Store, 10, "v", 2)), p(false, ways, text(ssa.Native, 10, "m", 2)), p(false, attempt(text(ssa.Call, 10, "m", 2), 1, 2)),
	} {
		q.Funcs[0].Blocks = q.Funcs[0].Blocks[:1+len(q.Funcs[0].Blocks[0].End.To)]
		refused(t, "an object that escapes "+strconv.Itoa(i), q, stack(2), field(4, 0))
		if escapes, e := witness.Escapes(q.Funcs[0], 2); e != api.OK || !escapes {
			t.Errorf("%d: Escapes: %t, error %d", i, escapes, e)
		}
	}
	f := p(false, ways).Funcs[0]
	if escapes, e := witness.Escapes(f, 2); e != api.OK || escapes {
		t.Errorf("Escapes: %t, error %d", escapes, e)
	}
	for _, v := range []int{0, 1, 3, 4, 9, -1} {
		if escapes, e := witness.Escapes(f, v); e != api.ErrNone || escapes {
			t.Errorf("Escapes of %d: %t, error %d", v, escapes, e)
		}
	}
	if escapes, e := witness.Escapes(function("f", 0, block(returns(0))), 2); e != ssa.ErrUse || escapes {
		t.Errorf("Escapes in a wrong function: error %d", e)
	}
}

// TestForms: steps that are none, and programs that are not right.
func TestForms(t *testing.T) {
	p := one(block(returns(3), number(2, 1), number(3, 1)))
	for i, s := range []optimize.Step{
		{}, {Kind: 11}, {Kind: -1}, {Kind: optimize.StepDrop, Func: 1, A: 2}, {Kind: optimize.StepDrop, Func: -1, A: 2}, {Kind: optimize.StepDrop, A: 2, B: 1}, {Kind: optimize.StepDrop, A: 2, Text: "a"}, {Kind: optimize.StepDrop, A: 2, Lit: u8(0)},
		{Kind: optimize.StepCopy, A: 2, B: 3, Lit: api.Value{Lo: 1}}, {Kind: optimize.StepCopy, A: 2, B: 3, Text: "a"}, {Kind: optimize.StepFold, A: 2, B: 1, Lit: u8(1)}, {Kind: optimize.StepFold, A: 2, Lit: u8(1), Text: "a"}, {Kind: optimize.StepCommon, A: 3, B: 2, Text: "a"},
		{Kind: optimize.StepCommon, A: 3, B: 2, Lit: api.Value{Name: "a"}}, {Kind: optimize.StepBranch, Text: "a"}, {Kind: optimize.StepBranch, Lit: api.Value{Hi: 1}}, {Kind: optimize.StepJoin, B: 1}, {Kind: optimize.StepJoin, Text: "a"}, {Kind: optimize.StepInline, A: 2, B: 1},
		{Kind: optimize.StepInline, A: 2, Text: "a"}, {Kind: optimize.StepDirect, A: 2, B: 1, Text: "f"}, {Kind: optimize.StepDirect, A: 2, Lit: u8(1), Text: "f"}, {Kind: optimize.StepStack, A: 2, B: -1}, {Kind: optimize.StepStack, A: 2, Lit: api.Value{Kids: []api.Value{{}}}},
		{Kind: optimize.StepField, A: 2, B: 1, Text: "a"}, {Kind: optimize.StepField, A: 2, B: 1, Lit: api.Value{Kind: -1}},
	} {
		if q, e := witness.Apply(p, s); e != witness.ErrStep || !alike(q, ssa.Program{}) {
			t.Errorf("%d: error %d", i, e)
		}
		if n, e := witness.Check(p, p, []optimize.Step{common(3, 2), s}); e != witness.ErrStep || n != 1 {
			t.Errorf("%d: Check: error %d at %d", i, e, n)
		}
	}
	bad := one(block(returns(9)))
	if q, e := witness.Apply(bad, optimize.Step{}); e != ssa.ErrUse || !alike(q, ssa.Program{}) {
		t.Errorf("a program that is not right: error %d", e)
	}
	if n, e := witness.Check(bad, bad, make([]optimize.Step, 20001)); n != 0 || e != ssa.ErrUse {
		t.Errorf("Check of a program that is not right: error %d at %d", e, n)
	}
	if l, e := witness.Targets(bad, api.Type{}, "m"); e != ssa.ErrUse || len(l) > 0 {
		t.Errorf("Targets of a program that is not right: error %d", e)
	}
}

// TestCheck: lists of steps, and what they lead to.
func TestCheck(t *testing.T) {
	p := one(block(returns(3), number(2, 1), number(3, 1)))
	p.Entities = graphs.Entities()
	q, _ := witness.Apply(p, common(3, 2))
	many := slices.Repeat([]optimize.Step{copies(2, 1)}, 20001)
	loop := one(block(jump(1)), block(returns(0), ins(ssa.Phi, 2, 1)))
	other, more := q, q
	other.Entities = slices.Clone(q.Entities)
	other.Entities[3].Methods = nil
	more.Funcs = append(slices.Clone(q.Funcs), function("g", 1, block(returns(0))))
	renamed := ssa.Program{Entities: q.Entities, Funcs: []ssa.Func{function("f", 2, block(returns(77), number(77, 1)))}}
	for i, c := range []struct {
		p, q ssa.Program
		l    []optimize.Step
		n    int
		want api.Errno
	}{
		{p, p, nil, 0, api.OK}, {p, q, nil, 0, witness.ErrResult}, {p, q, []optimize.Step{common(3, 2)}, 0, api.OK}, {p, renamed, []optimize.Step{common(3, 2)}, 0, api.OK}, {p, p, []optimize.Step{common(3, 2)}, 1, witness.ErrResult},
		{p, other, []optimize.Step{common(3, 2)}, 1, witness.ErrResult}, {p, more, []optimize.Step{common(3, 2)}, 1, witness.ErrResult}, {p, ssa.Program{Entities: p.Entities}, []optimize.Step{common(3, 2)}, 1, witness.ErrResult},
		{p, q, []optimize.Step{common(3, 2), common(3, 2)}, 1, witness.ErrRule}, {p, q, []optimize.Step{drop(3), {}}, 0, witness.ErrRule}, {loop, loop, many, 0, api.ErrSize}, {loop, loop, many[1:], 0, api.OK}, {p, one(block(returns(9))), nil, 0, witness.ErrResult},
		{ssa.Program{}, ssa.Program{}, nil, 0, api.OK}, {ssa.Program{}, p, nil, 0, witness.ErrResult},
	} {
		if n, e := witness.Check(c.p, c.q, c.l); n != c.n || e != c.want {
			t.Errorf("%d: error %d at %d, not %d at %d", i, e, n, c.want, c.n)
		}
	}
}

// TestTargets: which methods a call can reach.
func TestTargets(t *testing.T) {
	p := ssa.Program{Entities: graphs.Entities()}
	p.Entities = append(p.Entities, api.Entity{Kind: api.Actor, Name: "W", Cap: api.Tag}, api.Entity{Kind: api.Primitive, Name: "P", Cap: api.Val, Provides: []api.Type{name("T")}}, api.Entity{Kind: api.Class, Name: "A", Cap: api.Ref})
	for _, s := range []string{"A.m", "B.m", "P.m", "W.m", "A.n", "B.n"} {
		p.Funcs = append(p.Funcs, function(s, 1, block(returns(0))))
	}
	union := func(kind int, l ...api.Type) api.Type { return api.Type{Kind: kind, Args: l} }
	this := api.Type{Kind: api.TypeSelf, Cap: api.Iso}
	tagged := name("A")
	tagged.Cap = api.Tag
	for i, c := range []struct {
		t      api.Type
		method string
		want   string
		e      api.Errno
	}{
		{name("A"), "m", "A.m", api.OK}, {tagged, "m", "A.m", api.OK}, {name("T"), "m", "A.m B.m P.m", api.OK}, {name("Any"), "m", "A.m B.m P.m W.m", api.OK}, {name("T"), "n", "", api.ErrNone}, {name("W"), "m", "W.m", api.OK}, {name("none"), "m", "", api.OK}, {name("none"), "z", "", api.OK},
		{union(api.TypeUnion, name("B"), name("A")), "n", "A.n B.n", api.OK}, {union(api.TypeBoth, name("T"), name("B")), "m", "B.m", api.OK}, {union(api.TypeBoth, name("A"), name("B")), "z", "", api.OK}, {union(api.TypeArrow, this, name("P")), "m", "P.m", api.OK},
		{union(api.TypeUnion, union(api.TypeArrow, this, name("P")), union(api.TypeUnion, name("W"), name("P"))), "m", "P.m W.m", api.OK}, {union(api.TypeTuple, name("A"), name("A")), "m", "", api.OK}, {this, "m", "", api.OK}, {name("A"), "", "", api.ErrNone},
		{api.Type{}, "m", "", api.ErrForm}, {name(strings.Repeat("x", 301)), "m", "", api.ErrForm}, {union(api.TypeUnion, name("A")), "m", "", api.ErrForm},
	} {
		l, e := witness.Targets(p, c.t, c.method)
		if e != c.e || !slices.Equal(l, strings.Fields(c.want)) {
			t.Errorf("%d: %v, error %d, not %s, %d", i, l, e, c.want, c.e)
		}
	}
}

// TestMemory: what is handed in is not changed, and what is handed back is of its own.
func TestMemory(t *testing.T) {
	build := func() ssa.Program {
		p := one(block(branch(0, 1, 1), typed(number(2, 1), api.Type{Kind: 3, Args: []api.Type{{}, {}}}), number(3, 1)), block(returns(5), ins(ssa.Phi, 5, 3, 3), ins(ssa.Is, 6, 2, 5)))
		p.Entities = graphs.Entities()
		p.Funcs[0].Params[0].Args = []api.Type{{}}
		return p
	}
	p := build()
	for _, s := range []optimize.Step{copies(5, 3), folds1(2, u8(1)), decide(0, 0), drop(6)} {
		q, e := witness.Apply(p, s)
		if e != api.OK {
			continue
		}
		q.Entities[2].Methods[0].Name = "z"
		f := &q.Funcs[0]
		f.Params[0].Args[0].Kind = 9
		f.Blocks[0].Ins[0].Type.Args[0].Kind = 9
		f.Blocks[0].End.To[0] = 9
		f.Blocks[1].Ins[0].Args[0] = 9
	}
	if !alike(p, build()) {
		t.Error("the program was changed")
	}
}
