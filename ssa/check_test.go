package ssa_test

import (
	"slices"
	"strconv"
	"strings"
	"testing"

	"hackamore/api"
	"hackamore/graphs"
	"hackamore/ssa"
)

// wrongFunc checks the error of a function, and where it is told.
func wrongFunc(t *testing.T, what string, f ssa.Func, block, at int, want api.Errno) {
	t.Helper()
	where, e := ssa.CheckFunc(f)
	if e != want || where != (ssa.Fault{Block: block, At: at}) {
		t.Errorf("%s: error %d at %v, not %d at %d, %d", what, e, where, want, block, at)
	}
	if e == api.OK {
		return
	}
	if _, e := ssa.Preds(f); e != want {
		t.Errorf("%s: Preds returns the error %d", what, e)
	}
	if s := ssa.Equal(f, f); s != (e >= ssa.ErrBlock && hasShape(f)) {
		t.Errorf("%s: Equal to itself: %t", what, s)
	}
}

// hasShape reports whether the shape of a function is right: then it can be printed.
func hasShape(f ssa.Func) bool {
	_, e := ssa.Print([]ssa.Func{f})
	return e == api.OK
}

// one returns a function whose only block has these instructions behind the value 1, and returns that.
func one(l ...ssa.Ins) ssa.Func {
	return function(block(returns(1), append([]ssa.Ins{number(1, 5)}, l...)...))
}

// TestInsErrors: what is wrong with an instruction by itself, in the order in which it is asked.
func TestInsErrors(t *testing.T) {
	long, wide := strings.Repeat("x", 201), strings.Repeat("x", 4001)
	lit := func(v api.Value) ssa.Ins { return ssa.Ins{Op: ssa.Const, Result: 2, Lit: v} }
	kids := func(n int) api.Value { return api.Value{Kind: api.ValTuple, Kids: make([]api.Value, n)} }
	deep := api.Value{Kind: 16}
	for range 7 {
		deep = api.Value{Kind: api.ValTuple, Kids: []api.Value{{Kind: 16}, deep}}
	}
	flagged := func(x ssa.Ins) ssa.Ins { x.Flag = true; return x }
	with := func(x ssa.Ins, name string, n int, v api.Value) ssa.Ins { x.Name, x.N, x.Lit = name, n, v; return x }
	for i, c := range []struct {
		x    ssa.Ins
		want api.Errno
	}{
		{ins(0, 2), api.ErrArg}, {ins(-1, 2), api.ErrArg}, {ins(18, 2), api.ErrArg}, {ins(1<<40, -5, -1), api.ErrArg},
		{ins(ssa.Const, 2, 1), api.ErrSize}, {text(ssa.Text, 2, "", 1), api.ErrSize}, {text(ssa.Load, 2, "a", 1), api.ErrSize}, {text(ssa.Store, 2, "a"), api.ErrSize}, {text(ssa.Store, 2, "a", 1, 1), api.ErrSize},
		{text(ssa.Get, 2, "a"), api.ErrSize}, {text(ssa.Set, 2, "a", 1), api.ErrSize}, {text(ssa.Make, 2, "a", 1), api.ErrSize}, {text(ssa.Call, 2, "a"), api.ErrSize}, {text(ssa.Send, 2, "a"), api.ErrSize},
		{ins(ssa.Tuple, 2, 1), api.ErrSize}, {ins(ssa.Item, 2), api.ErrSize}, {ins(ssa.Is, 2, 1), api.ErrSize}, {ins(ssa.Fits, 2), api.ErrSize}, {ins(ssa.Fits, 2, 1, 1), api.ErrSize},
		{ins(ssa.Tuple, 2, slices.Repeat([]int{1}, 65)...), api.ErrSize}, {text(ssa.Native, 2, "a", slices.Repeat([]int{1}, 65)...), api.ErrSize}, {text(ssa.Direct, 2, "a", slices.Repeat([]int{1}, 65)...), api.ErrSize},
		{text(ssa.Call, 2, "a", slices.Repeat([]int{1}, 65)...), api.ErrSize}, {ins(ssa.Phi, 2, slices.Repeat([]int{1}, 401)...), api.ErrSize},
		{text(ssa.Tuple, 2, "a", 1), api.ErrSize}, {text(ssa.Load, 2, ""), api.ErrForm}, {text(ssa.Load, 2, long), api.ErrForm}, {text(ssa.Load, 2, "\xff"), api.ErrForm}, {text(ssa.Call, 2, "", 1), api.ErrForm},
		{text(ssa.Text, 2, wide), api.ErrForm}, {text(ssa.Text, 2, "\xff"), api.ErrForm}, {text(ssa.Tuple, 2, "a", 1, 1), api.ErrForm}, {text(ssa.Const, 2, "a"), api.ErrForm}, {text(ssa.Is, 2, "a", 1, 1), api.ErrForm},
		{text(ssa.Spawn, 2, "a"), api.ErrForm}, {with(ins(ssa.Spawn, 2), "a", 0, api.Value{}), api.ErrForm}, {with(text(ssa.Spawn, 2, "a"), long, 0, api.Value{}), api.ErrForm}, {with(text(ssa.Spawn, 2, "a"), "\xff", 0, api.Value{}), api.ErrForm},
		{with(text(ssa.Load, 2, "a"), "b", 0, api.Value{}), api.ErrForm}, {with(text(ssa.Load, 2, "a"), "", 1, api.Value{}), api.ErrForm}, {with(text(ssa.Load, 2, "a"), "", 0, api.Value{Kind: 1}), api.ErrForm},
		{with(text(ssa.Load, 2, "a"), "", 0, api.Value{Lo: 1}), api.ErrForm}, {with(text(ssa.Load, 2, "a"), "", 0, api.Value{Hi: 1}), api.ErrForm}, {with(text(ssa.Load, 2, "a"), "", 0, api.Value{Name: "a"}), api.ErrForm},
		{with(text(ssa.Load, 2, "a"), "", 0, kids(1)), api.ErrForm}, {with(ins(ssa.Item, 2, 1), "", 64, api.Value{}), api.ErrForm}, {with(ins(ssa.Item, 2, 1), "", -1, api.Value{}), api.ErrForm},
		{flagged(text(ssa.Load, 2, "a")), api.ErrForm}, {flagged(ins(ssa.Is, 2, 1, 1)), api.ErrForm}, {lit(kids(65)), api.ErrForm}, {lit(api.Value{Kids: []api.Value{kids(65)}}), api.ErrForm}, {lit(api.Value{Kids: []api.Value{deep}}), api.ErrForm},
		{ins(ssa.Is, 2, 1, -1), api.ErrRange}, {ins(ssa.Is, 2, 100001, 1), api.ErrRange}, {ins(ssa.Is, 0, -1, 1), api.ErrRange}, {ins(ssa.Const, 0), api.ErrRange}, {ins(ssa.Const, -1), api.ErrRange}, {ins(ssa.Const, 100001), api.ErrRange},
		{ins(ssa.Const, 1), api.ErrTwice}, {ins(ssa.Phi, 1), api.ErrTwice}, {ins(ssa.Phi, 2), ssa.ErrPhi}, {ins(ssa.Is, 2, 1, 100000), ssa.ErrUse}, {ins(ssa.Is, 2, 1, 2), ssa.ErrUse},
	} {
		wrongFunc(t, strconv.Itoa(i), one(c.x), 0, 1, c.want)
	}
	for i, x := range []ssa.Ins{
		lit(deep), lit(kids(64)), lit(api.Value{Kind: -5, Name: long}), text(ssa.Text, 2, ""), text(ssa.Text, 2, wide[1:]), text(ssa.Load, 2, long[1:]), flagged(text(ssa.Make, 2, "a")), text(ssa.Make, 2, "a"),
		with(text(ssa.Spawn, 2, "a"), "b", 0, api.Value{}), with(ins(ssa.Item, 2, 1), "", 63, api.Value{}), ins(ssa.Const, 100000), text(ssa.Direct, 2, "a"), text(ssa.Native, 2, "é"), ins(ssa.Tuple, 2, slices.Repeat([]int{1}, 64)...),
		{Op: ssa.Const, Result: 2, Type: api.Type{Kind: -1, Name: "\xff", Cap: 1 << 40, Args: []api.Type{{}}}},
	} {
		wrongFunc(t, "right "+strconv.Itoa(i), one(x), 0, 0, api.OK)
	}
}

// TestEndErrors: what is wrong with an end by itself.
func TestEndErrors(t *testing.T) {
	call := text(ssa.Call, 9, "m", 0)
	blocks := func(end ssa.End) ssa.Func {
		return function(block(end, number(1, 5)), block(returns(0)), block(returns(0)))
	}
	for i, c := range []struct {
		end  ssa.End
		want api.Errno
	}{
		{ssa.End{}, api.ErrArg}, {ssa.End{Kind: 7, Args: []int{-1}}, api.ErrArg}, {ssa.End{Kind: -1}, api.ErrArg}, {ssa.End{Kind: ssa.Jump}, api.ErrSize}, {ssa.End{Kind: ssa.Jump, Args: []int{-1}, To: []int{1}}, api.ErrSize},
		{ssa.End{Kind: ssa.Branch, To: []int{1, 2}}, api.ErrSize}, {ssa.End{Kind: ssa.Branch, Args: []int{0}, To: []int{1}}, api.ErrSize}, {ssa.End{Kind: ssa.Return}, api.ErrSize}, {ssa.End{Kind: ssa.Return, Args: []int{0}, To: []int{1}}, api.ErrSize},
		{ssa.End{Kind: ssa.Error, Args: []int{0}}, api.ErrSize}, {ssa.End{Kind: ssa.Stuck, To: []int{1}}, api.ErrSize}, {ssa.End{Kind: ssa.Try, Call: call, To: []int{1}}, api.ErrSize}, {ssa.End{Kind: ssa.Try, Call: call, Args: []int{0}, To: []int{1, 2}}, api.ErrSize},
		{returns(-1), api.ErrRange}, {returns(100001), api.ErrRange}, {branch(-1, 9, 9), api.ErrRange}, {ssa.End{Kind: ssa.Jump, To: []int{9}, Call: call}, api.ErrArg}, {ssa.End{Kind: ssa.Jump, To: []int{1}, Call: ssa.Ins{Result: 1}}, api.ErrArg},
		{ssa.End{Kind: ssa.Jump, To: []int{1}, Call: ssa.Ins{Type: api.Type{Cap: 1}}}, api.ErrArg}, {ssa.End{Kind: ssa.Jump, To: []int{1}, Call: ssa.Ins{Flag: true}}, api.ErrArg}, {ssa.End{Kind: ssa.Error, Call: ssa.Ins{Name: "a"}}, api.ErrArg},
		{tries(ssa.Ins{}, 1, 2), api.ErrArg}, {tries(number(9, 1), 1, 1), api.ErrArg}, {tries(text(ssa.Native, 9, "m", 0), 1, 2), api.ErrArg}, {tries(text(ssa.Send, 9, "m", 0), 1, 2), api.ErrArg},
		{tries(text(ssa.Call, 9, "m"), 1, 2), api.ErrSize}, {tries(text(ssa.Call, 9, "", 0), 1, 2), api.ErrForm}, {tries(text(ssa.Call, 9, "m", -1), 1, 2), api.ErrRange}, {tries(text(ssa.Call, 0, "m", 0), 1, 2), api.ErrRange},
		{tries(text(ssa.Call, 1, "m", 0), 1, 1), api.ErrTwice}, {jump(0), ssa.ErrBlock}, {jump(3), ssa.ErrBlock}, {jump(-1), ssa.ErrBlock}, {branch(0, 1, 3), ssa.ErrBlock}, {branch(0, 0, 1), ssa.ErrBlock}, {tries(call, 1, 1), ssa.ErrBlock}, {tries(call, 1, 5), ssa.ErrBlock},
	} {
		wrongFunc(t, strconv.Itoa(i), blocks(c.end), 0, 1, c.want)
	}
	wrongFunc(t, "a try", blocks(tries(call, 1, 2)), 0, 0, api.OK)
	wrongFunc(t, "a try of a direct", blocks(tries(text(ssa.Direct, 9, "g"), 1, 2)), 0, 0, api.OK)
}

// TestSizes: limits of functions, and their names.
func TestSizes(t *testing.T) {
	chain := func(n int) ssa.Func {
		f := function()
		for i := range n - 1 {
			f.Blocks = append(f.Blocks, block(jump(i+1)))
		}
		f.Blocks = append(f.Blocks, block(returns(0)))
		return f
	}
	many := func(n int) ssa.Func {
		f := one()
		for i := range n - 1 {
			f.Blocks[0].Ins = append(f.Blocks[0].Ins, number(i+2, 1))
		}
		return f
	}
	wrongFunc(t, "no block", function(), 0, 0, api.ErrSize)
	wrongFunc(t, "400 blocks", chain(400), 0, 0, api.OK)
	wrongFunc(t, "401 blocks", chain(401), 0, 0, api.ErrSize)
	wrongFunc(t, "4000 instructions", many(4000), 0, 0, api.OK)
	wrongFunc(t, "4001 instructions", many(4001), 0, 0, api.ErrSize)
	f := many(4000)
	f.Blocks[0].End = tries(text(ssa.Call, 5000, "m", 0), 1, 2)
	f.Blocks = append(f.Blocks, block(returns(0)), block(returns(0)))
	wrongFunc(t, "4000 instructions and a try", f, 0, 0, api.ErrSize)
	f.Blocks[0].Ins = f.Blocks[0].Ins[1:]
	wrongFunc(t, "3999 instructions and a try", f, 0, 0, api.OK)
	for n, want := range map[int]api.Errno{64: api.OK, 65: api.ErrSize} {
		f := function(block(returns(0)))
		f.Params = make([]api.Type, n)
		wrongFunc(t, "parameters", f, 0, 0, want)
	}
	for name, want := range map[string]api.Errno{"": api.OK, strings.Repeat("x", 200): api.OK, strings.Repeat("x", 201): api.ErrForm, "a\xff": api.ErrForm} {
		f := function(block(ssa.End{}))
		f.Name = name
		if want == api.OK {
			f.Blocks[0].End = returns(0)
		}
		wrongFunc(t, "the name "+name, f, 0, 0, want)
	}
}

// TestPlaces: what is asked of the whole of a function, and in which order.
func TestPlaces(t *testing.T) {
	call := text(ssa.Call, 9, "m", 0)
	gone := diamond()
	gone.Blocks[0].End = jump(3)
	gone.Blocks[3].Ins[0].Args = nil
	wrongFunc(t, "a block that is not reached", gone, 1, 0, ssa.ErrBlock)
	wrongFunc(t, "a phi behind others", function(block(jump(1)), block(returns(0), number(1, 1), ins(ssa.Phi, 2, 0))), 1, 1, ssa.ErrPhi)
	wrongFunc(t, "a phi that is wrong by itself", function(block(jump(1)), block(returns(0), number(1, 1), ins(ssa.Phi, 1, 0))), 1, 1, api.ErrTwice)
	wrongFunc(t, "phis", function(block(jump(1)), block(returns(2), ins(ssa.Phi, 1, 0), ins(ssa.Phi, 2, 0))), 0, 0, api.OK)
	wrongFunc(t, "a way to a block behind a try", function(block(branch(0, 1, 2)), block(tries(call, 2, 3)), block(returns(0)), block(returns(0))), 1, 0, ssa.ErrBlock)
	wrongFunc(t, "two tries", function(block(branch(0, 1, 2)), block(tries(call, 3, 4)), block(tries(text(ssa.Call, 8, "m", 0), 3, 4)), block(returns(0)), block(returns(0))), 1, 0, ssa.ErrBlock)
	wrongFunc(t, "two tries with one other way", function(block(branch(0, 1, 2)), block(tries(call, 3, 4)), block(tries(text(ssa.Call, 8, "m", 0), 5, 4)), block(returns(9)), block(returns(0)), block(returns(8))), 0, 0, api.OK)
	wrongFunc(t, "a phi with an argument too few", function(block(branch(0, 1, 1)), block(returns(0), ins(ssa.Phi, 1, 9))), 1, 0, ssa.ErrPhi)
	wrongFunc(t, "a phi of two ways from one block", function(block(branch(0, 1, 1)), block(returns(1), ins(ssa.Phi, 1, 0, 0))), 0, 0, api.OK)
	wrongFunc(t, "a value of one way", function(block(branch(0, 1, 2)), block(jump(2), number(1, 1)), block(returns(1))), 2, 0, ssa.ErrUse)
	wrongFunc(t, "a value behind", one(ins(ssa.Is, 2, 3, 1), number(3, 1)), 0, 1, ssa.ErrUse)
	wrongFunc(t, "a value of a loop", function(block(jump(1)), block(branch(0, 1, 2), ins(ssa.Phi, 1, 0, 2), number(2, 1)), block(returns(2))), 0, 0, api.OK)
	wrongFunc(t, "a phi of another way", function(block(jump(1)), block(branch(0, 1, 2), ins(ssa.Phi, 1, 2, 2), number(2, 1)), block(returns(2))), 1, 0, ssa.ErrUse)
	wrongFunc(t, "the result of a try", function(block(tries(call, 1, 2)), block(returns(9)), block(returns(0))), 0, 0, api.OK)
	wrongFunc(t, "the result of a try that failed", function(block(tries(call, 1, 2)), block(returns(9)), block(returns(9))), 2, 0, ssa.ErrUse)
	wrongFunc(t, "the result of a try by itself", function(block(tries(text(ssa.Call, 9, "m", 9), 1, 2)), block(returns(9)), block(returns(0))), 0, 0, ssa.ErrUse)
	wrongFunc(t, "the result of a try in a phi", function(block(tries(call, 1, 2)), block(returns(0), ins(ssa.Phi, 1, 9)), block(returns(0))), 1, 0, ssa.ErrUse)
	wrongFunc(t, "the end behind instructions", function(block(returns(7), number(1, 1), ins(ssa.Is, 2, 1, 8))), 0, 1, ssa.ErrUse)
	wrongFunc(t, "the end", function(block(returns(7), number(1, 1))), 0, 1, ssa.ErrUse)
	wrongFunc(t, "no parameter", ssa.Func{Blocks: []ssa.Block{block(returns(0))}}, 0, 0, ssa.ErrUse)
}

// there reports in a plain way whether a value is there at a place (P19.2): there is no way to it that does not make the value.
func there(f ssa.Func, v, at, index int) bool {
	if v < len(f.Params) {
		return true
	}
	met := make([]bool, len(f.Blocks))
	missing := false
	var visit func(b int)
	visit = func(b int) {
		if met[b] {
			return
		}
		met[b] = true
		for i, x := range f.Blocks[b].Ins {
			if b == at && i == index {
				missing = true
			}
			if x.Result == v {
				return
			}
		}
		if b == at && index == len(f.Blocks[b].Ins) {
			missing = true
		}
		end := f.Blocks[b].End
		for way, to := range end.To {
			if end.Kind == ssa.Try && way == 0 && end.Call.Result == v {
				continue
			}
			visit(to)
		}
	}
	visit(0)
	return !missing
}

// TestThere: functions in which one argument was changed are right just if the value is there.
func TestThere(t *testing.T) {
	count := map[api.Errno]int{}
	for seed, f := range made(t, 2500, 9, false) {
		m := graphs.New(uint64(seed)+1<<32, 1, false)
		uses, _ := ssa.Uses(f)
		i := m.Below(len(f.Blocks))
		b := &f.Blocks[i]
		if len(b.Ins) == 0 || len(uses) == 0 {
			continue
		}
		j := m.Below(len(b.Ins))
		x := &b.Ins[j]
		if len(x.Args) == 0 {
			continue
		}
		k, v := m.Below(len(x.Args)), m.Below(len(uses))
		x.Args[k] = v
		want := there(f, v, i, j)
		if x.Op == ssa.Phi {
			p := graphs.Preds(f.Blocks)[i][k]
			want = there(f, v, p, len(f.Blocks[p].Ins))
		}
		made := v < len(f.Params) || slices.ContainsFunc(f.Blocks, func(b ssa.Block) bool {
			return b.End.Kind == ssa.Try && b.End.Call.Result == v || slices.ContainsFunc(b.Ins, func(x ssa.Ins) bool { return x.Result == v })
		})
		if want && made {
			wrongFunc(t, "a value that is there", f, 0, 0, api.OK)
			count[api.OK]++
		} else {
			wrongFunc(t, "a value that is not there", f, i, j, ssa.ErrUse)
			count[ssa.ErrUse]++
		}
	}
	if count[api.OK] < 200 || count[ssa.ErrUse] < 200 {
		t.Errorf("changed functions: %v", count)
	}
}

// TestCheck: programs.
func TestCheck(t *testing.T) {
	named := func(name string, l ...ssa.Block) ssa.Func { f := function(l...); f.Name = name; return f }
	f := named("f", block(returns(1), text(ssa.Direct, 1, "g", 0)))
	g := named("g", block(tries(text(ssa.Direct, 1, "f", 0), 1, 2)), block(returns(1)), block(returns(0)))
	h := named("h", block(returns(1), text(ssa.Direct, 1, "g"), text(ssa.Direct, 2, "none")))
	k := named("k", block(tries(text(ssa.Direct, 1, "none"), 1, 2), text(ssa.Call, 2, "none", 0)), block(returns(1)), block(returns(0), text(ssa.Direct, 3, "f")))
	program := func(l ...ssa.Func) ssa.Program { return ssa.Program{Funcs: l} }
	many := program()
	for i := range 500 {
		many.Funcs = append(many.Funcs, named("f"+strconv.Itoa(i), block(returns(0))))
	}
	more := program(append(slices.Clone(many.Funcs), f)...)
	for i, c := range []struct {
		p    ssa.Program
		at   ssa.Fault
		want api.Errno
	}{
		{program(), ssa.Fault{}, api.OK}, {program(f, g), ssa.Fault{}, api.OK}, {many, ssa.Fault{}, api.OK}, {more, ssa.Fault{}, api.ErrSize}, {ssa.Program{Entities: make([]api.Entity, 200)}, ssa.Fault{}, api.OK},
		{ssa.Program{Entities: make([]api.Entity, 201)}, ssa.Fault{}, api.ErrSize}, {program(f), ssa.Fault{Func: 0, Block: 0, At: 0}, api.ErrNone}, {program(f, f), ssa.Fault{Func: 1}, api.ErrTwice},
		{program(f, f, one(ins(0, 2))), ssa.Fault{Func: 1}, api.ErrTwice}, {program(f, g, named("h", block(returns(9)), block(returns(0)))), ssa.Fault{Func: 2, Block: 1}, ssa.ErrBlock},
		{program(f, g, h), ssa.Fault{Func: 2, Block: 0, At: 0}, api.ErrSize}, {program(h, f, g), ssa.Fault{Func: 0, Block: 0, At: 0}, api.ErrSize}, {program(k, f, g), ssa.Fault{Func: 0, Block: 0, At: 1}, api.ErrNone},
		{program(named("", block(returns(0))), named("", block(returns(0)))), ssa.Fault{Func: 1}, api.ErrTwice},
	} {
		if at, e := ssa.Check(c.p); e != c.want || at != c.at {
			t.Errorf("%d: error %d at %v, not %d at %v", i, e, at, c.want, c.at)
		}
	}
}
