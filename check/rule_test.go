package check_test

import (
	"slices"
	"strings"
	"testing"

	"hackamore/api"
	"hackamore/cells"
	"hackamore/check"
)

// asked is an expression with the types of its Kids, and what the rule gives for it: the text of a type, or an error.
type asked struct {
	x    api.Expr
	kids string
	typ  string
	e    api.Errno
}

// place is a context in a method of the program cells: local variables, each as `name type`, and regions.
func place(t testing.TB, p []api.Entity, entity, method string, locals ...check.Local) check.Context {
	i, j := at(t, p, entity, method)
	return check.Context{Entity: i, Method: j, Locals: locals}
}

func asks(t *testing.T, p []api.Entity, c check.Context, l []asked) {
	t.Helper()
	for i, a := range l {
		if got := rule(p, c, a.x, a.kids); got != (ruled{a.typ, a.e}) {
			t.Errorf("%d: op %d %q of (%s) is %v, not %v", i, a.x.Op, a.x.Text, a.kids, got, ruled{a.typ, a.e})
		}
	}
}

func lit(text, typ string) api.Expr { return tx(api.OpLit, text, typ) }

// TestRuleErrors: what is asked ahead of each rule.
func TestRuleErrors(t *testing.T) {
	p := program(t, cells.Text)
	c := place(t, p, "main.Cell", "get")
	if _, e := check.Rule(nil, check.Context{Entity: -1}, local(""), tys("U8 val")); e != api.ErrSize {
		t.Errorf("error %d", e)
	}
	for _, bad := range [][2]int{{-1, 0}, {len(p), 0}, {c.Entity, -1}, {c.Entity, len(p[c.Entity].Methods)}} {
		if _, e := check.Rule(p, check.Context{Entity: bad[0], Method: bad[1]}, local(""), nil); e != api.ErrRange {
			t.Errorf("error %d", e)
		}
	}
	for _, n := range []api.Expr{nothing, {Op: -3}, {Op: 27}, local("")} {
		if _, e := check.Rule(p, c, n, nil); e != api.ErrForm {
			t.Errorf("op %d: error %d", n.Op, e)
		}
	}
}

// TestRuleLiterals: literals, primitives and what tells objects apart.
func TestRuleLiterals(t *testing.T) {
	p := program(t, cells.Text)
	c := place(t, p, "main.Cell", "get")
	long := strings.Repeat("1", 401)
	asks(t, p, c, []asked{
		{lit("true", "Bool val"), "", "Bool val", 0}, {lit("false", "Bool ref^"), "", "Bool val", 0},
		{lit("", "Bool val"), "", "", api.ErrForm}, {lit("True", "Bool val"), "", "", api.ErrForm},
		{lit("", "String iso!"), "", "String val", 0}, {lit("\x00é", "String val"), "", "String val", 0}, {lit("\xff", "String val"), "", "", api.ErrForm},
		{lit("255", "U8 box"), "", "U8 val", 0}, {lit("256", "U8 val"), "", "", api.ErrRange}, {lit("-1", "I8 val"), "", "I8 val", 0},
		{lit("x", "U8 val"), "", "", api.ErrForm}, {lit("1.5", "F32 val"), "", "F32 val", 0}, {lit("1.5", "U8 val"), "", "", api.ErrForm},
		{lit(long, "U8 val"), "", "", api.ErrLarge}, {lit("1", "main.Cell val"), "", "", api.ErrNone}, {lit("1", "None val"), "", "", api.ErrNone},
		{nix, "", "None val", 0}, {tx(api.OpUnit, "", "main.Prim ref!"), "", "main.Prim val", 0}, {tx(api.OpUnit, "", "AmbientAuth val"), "", "AmbientAuth val", 0},
		{tx(api.OpUnit, "", "Bool val"), "", "", api.ErrType}, {tx(api.OpUnit, "", "U8 val"), "", "", api.ErrType}, {tx(api.OpUnit, "", "F64 val"), "", "", api.ErrType},
		{tx(api.OpUnit, "", "main.Cell val"), "", "", api.ErrType}, {tx(api.OpUnit, "", "main.Nix val"), "", "", api.ErrType}, {tx(api.OpUnit, "", "main.Named val"), "", "", api.ErrType},
		{tx(api.OpUnit, "", "main.Worker val"), "", "", api.ErrType}, {tx(api.OpUnit, "", "String val"), "", "", api.ErrType},
		{x(api.OpIs, "", one, one), "U8 val; main.Cell iso", "Bool val", 0}, {x(api.OpIs, "", fails, fails), ";", "Bool val", 0},
	})
}

// TestRuleLocals: what local variables are where they stand, and where they may not be met.
func TestRuleLocals(t *testing.T) {
	p := program(t, cells.Text)
	l := []check.Local{
		{Name: "p", Param: true, Always: true, Type: ty("main.Cell iso")},
		{Name: "a", Always: true, Type: ty("main.Cell iso")},
		{Name: "b", Type: ty("main.Cell trn")},
		{Name: "e", Always: true, Type: ty("(main.Cell iso^ | main.Cell trn^ | None val)")},
		{Name: "r", Always: true, Type: ty("main.Cell ref^")},
		{Name: "a", Type: ty("U32 val")},
		{Name: "in", Always: true, Type: ty("main.Cell iso"), Region: 1},
		{Name: "deep", Always: true, Type: ty("main.Cell ref"), Region: 2},
		{Name: "off", Always: true, Type: ty("U32 val"), Region: 3},
		{Name: "odd", Type: api.Type{Kind: 99}},
	}
	c := place(t, p, "main.Cell", "get", l...)
	assign := func(s string) api.Expr { return x(api.OpAssign, s, one) }
	consume := func(s string) api.Expr { return x(api.OpConsume, s) }
	asks(t, p, c, []asked{
		{local("p"), "", "main.Cell iso!", 0}, {local("a"), "", "U32 val", 0}, {local("b"), "", "main.Cell trn!", 0}, {local("r"), "", "main.Cell ref", 0},
		{local("e"), "", "(main.Cell iso! | main.Cell trn! | None val)", 0},
		{local("x"), "", "", api.ErrScope}, {local("in"), "", "", api.ErrScope}, {local("off"), "", "", api.ErrScope}, {local("odd"), "", "", api.ErrForm},
		{consume("p"), "", "main.Cell iso^", 0}, {consume("b"), "", "main.Cell trn^", 0}, {consume("e"), "", "(main.Cell iso^ | main.Cell trn^ | None val)", 0},
		{consume("x"), "", "", api.ErrScope}, {consume("deep"), "", "", api.ErrScope}, {consume("odd"), "", "", api.ErrForm},
		{assign("p"), "main.Cell iso^", "", check.ErrPlace}, {assign("x"), "U32 val", "", api.ErrScope}, {assign("in"), "U32 val", "", api.ErrScope},
		{assign("a"), "U32 val", "(None val | U32 val)", 0}, {assign("a"), "", "(None val | U32 val)", 0}, {assign("a"), "U64 val", "", check.ErrResult},
		{assign("b"), "main.Cell iso^", "(None val | main.Cell trn^)", 0}, {assign("b"), "main.Cell trn!", "", check.ErrResult},
		{assign("r"), "main.Cell ref", "main.Cell ref", 0}, {assign("odd"), "", "", api.ErrForm},
	})
	c.Regions = []int{1, 2}
	asks(t, p, c, []asked{
		{local("p"), "", "main.Cell iso!", 0}, {local("a"), "", "U32 val", 0}, {local("b"), "", "", check.ErrSend}, {local("e"), "", "", check.ErrSend}, {local("r"), "", "", check.ErrSend},
		{local("in"), "", "main.Cell iso!", 0}, {local("deep"), "", "main.Cell ref", 0}, {local("off"), "", "", api.ErrScope}, {local("odd"), "", "", check.ErrSend},
		{consume("p"), "", "main.Cell iso^", 0}, {consume("b"), "", "", check.ErrSend}, {consume("in"), "", "main.Cell iso^", 0}, {consume("deep"), "", "main.Cell ref", 0},
		{assign("p"), "U32 val", "", check.ErrPlace}, {assign("a"), "U32 val", "", check.ErrSend}, {assign("in"), "main.Cell iso^", "", check.ErrSend},
		{assign("deep"), "main.Cell ref", "main.Cell ref", 0}, {assign("deep"), "main.Cell box", "", check.ErrResult}, {assign("off"), "", "", api.ErrScope},
	})
	for _, op := range []int{api.OpVar, api.OpLet} {
		asks(t, p, c, []asked{
			{tx(op, "x", "main.Cell iso"), "", "None val", 0}, {tx(op, "x", "main.Cell iso", one), "main.Cell iso^", "None val", 0}, {tx(op, "x", "main.Cell iso", one), "", "None val", 0},
			{tx(op, "x", "main.Cell iso", one), "main.Cell iso!", "", check.ErrResult}, {tx(op, "x", "main.Cell box", one), "main.Cell ref", "None val", 0},
			{tx(op, "x", "$A"), "", "", api.ErrForm}, {tx(op, "x", "this"), "", "", api.ErrForm}, {tx(op, "x", "this ref"), "", "None val", 0},
			{tx(op, "x", "(this ref -> U8 val)"), "", "", api.ErrForm}, {tx(op, "x", "X[(this ref -> U8 val)] val"), "", "", api.ErrForm},
			{tx(op, "x", "(main.Cell ref & main.Named ref)", one), "main.Cell ref", "None val", 0}, {tx(op, "x", "(main.Cell ref & main.Named box)", one), "main.Cell ref", "", api.ErrForm},
			{tx(op, "x", "(U8 val | X[(main.Cell ref & main.Named ref!)] val)"), "", "", api.ErrForm}, {tx(op, "x", "(main.Named ref & (U8 ref, U8 val))"), "", "", api.ErrForm},
		})
	}
}

// TestRuleThis: the receiver by the kinds of methods and entities.
func TestRuleThis(t *testing.T) {
	p := program(t, cells.Text)
	for _, l := range []struct {
		entity, method, want string
		outside              bool // whether a recover block may see it
	}{
		{"main.Cell", "create", "main.Cell ref", false}, {"main.Cell", "get", "main.Cell box", false}, {"main.Cell", "raw", "main.Cell ref", false}, {"main.Cell", "gone", "main.Cell iso!", true},
		{"main.Leaf", "create", "main.Leaf ref", false}, {"main.Leaf", "cell", "main.Leaf tag", true}, {"main.Prim", "create", "main.Prim val", true}, {"main.Prim", "name", "main.Prim box", false},
		{"main.Worker", "create", "main.Worker ref", false}, {"main.Worker", "tell", "main.Worker ref", false}, {"main.Worker", "me", "main.Worker tag", true}, {"main.Named", "name", "main.Named box", false},
		{"main.Teller", "tell", "main.Teller ref", false},
	} {
		c := place(t, p, l.entity, l.method)
		asks(t, p, c, []asked{{this, "", l.want, 0}})
		c.Regions = []int{4}
		if l.outside {
			asks(t, p, c, []asked{{this, "", l.want, 0}})
		} else {
			asks(t, p, c, []asked{{this, "", "", check.ErrSend}})
		}
	}
}

// TestRuleGet: fields that are read through all capabilities.
func TestRuleGet(t *testing.T) {
	p := program(t, cells.Text)
	c := place(t, p, "main.Cell", "get")
	get := func(s string) api.Expr { return x(api.OpGet, s, one) }
	asks(t, p, c, []asked{
		{get("c"), "main.Cell box", "main.Cell box", 0}, {get("c"), "main.Cell ref", "main.Cell ref", 0}, {get("c"), "main.Cell iso", "main.Cell tag", 0}, {get("c"), "main.Cell val", "main.Cell val", 0},
		{get("c"), "main.Cell trn!", "main.Cell box", 0}, {get("c"), "main.Cell iso!", "", check.ErrView}, {get("c"), "main.Cell tag", "", check.ErrView}, {get("c"), "main.Cell ref!", "main.Cell ref", 0},
		{get("i"), "main.Cell ref", "main.Cell iso!", 0}, {get("i"), "main.Cell box", "main.Cell tag", 0}, {get("t"), "main.Cell trn", "main.Cell trn!", 0}, {get("i"), "main.Cell iso^", "main.Cell iso!", 0},
		{get("n"), "main.Worker ref", "U32 val", 0}, {get("n"), "main.Worker tag", "", check.ErrView},
		{get("x"), "main.Cell ref", "", api.ErrNone}, {get("n"), "main.Cell tag", "", api.ErrNone},
		{get("c"), "", "", api.ErrType}, {get("c"), "main.Named ref", "", api.ErrType}, {get("c"), "main.Prim val", "", api.ErrType}, {get("c"), "main.X ref", "", api.ErrType},
		{get("c"), "(main.Cell ref | main.Cell box)", "", api.ErrType}, {get("c"), "(main.Cell ref & main.Named ref)", "", api.ErrType}, {get("c"), "(main.Cell ref, U8 val)", "", api.ErrType}, {get("c"), "this ref", "", api.ErrType},
		{get("c"), "$A", "", api.ErrType}, {get("c"), "$main.Cell ref", "", api.ErrType}, {get("out"), "Env val", "Out tag", 0},
	})
}

// TestRuleSet: fields that are written, by the order of errors.
func TestRuleSet(t *testing.T) {
	p := program(t, cells.Text)
	set := func(s string) api.Expr { return x(api.OpSet, s, one, one) }
	own := func(s string) api.Expr { return x(api.OpSet, s, this, one) }
	asks(t, p, place(t, p, "main.Cell", "put"), []asked{
		{set("c"), "main.Cell ref; main.Cell ref", "main.Cell ref", 0}, {own("c"), "main.Cell ref; main.Cell ref", "main.Cell ref", 0}, {set("i"), "main.Cell ref; main.Cell iso^", "main.Cell iso^", 0},
		{set("i"), "main.Cell ref; main.Cell iso!", "", check.ErrResult}, {set("c"), "main.Cell ref; main.Cell box", "", check.ErrResult}, {set("v"), "main.Cell ref; U64 val", "", check.ErrResult},
		{set("c"), "main.Cell iso; main.Cell ref", "", check.ErrSend}, {set("c"), "main.Cell iso; main.Cell iso^", "main.Cell tag", 0}, {set("t"), "main.Cell trn; main.Cell trn^", "main.Cell box", 0},
		{set("t"), "main.Cell iso; main.Cell trn^", "", check.ErrSend}, {set("v"), "main.Cell trn; U32 val", "U32 val", 0}, {set("v"), "main.Cell ref;", "", check.ErrSend},
		{set("c"), "main.Cell box; main.Cell ref", "", check.ErrView}, {set("c"), "main.Cell iso!; U8 val", "", check.ErrView}, {set("c"), "main.Cell tag; U8 val", "", check.ErrView}, {set("v"), "main.Cell val; U32 val", "", check.ErrView},
		{set("l"), "main.Cell box; U8 val", "", check.ErrPlace}, {own("l"), "main.Cell ref; U32 val", "", check.ErrPlace},
		{set("x"), "main.Cell box; U8 val", "", api.ErrNone}, {set("x"), "main.Named ref; U8 val", "", api.ErrType}, {set("x"), "; U8 val", "", api.ErrType},
	})
	asks(t, p, place(t, p, "main.Cell", "create"), []asked{
		{own("c"), "main.Cell ref; main.Cell ref", "(None val | main.Cell ref)", 0}, {set("c"), "main.Cell ref; main.Cell ref", "main.Cell ref", 0},
		{own("l"), "main.Cell ref; U32 val", "(None val | U32 val)", 0}, {set("l"), "main.Cell ref; U32 val", "", check.ErrPlace},
	})
	i, _ := at(t, p, "main.Cell", "put")
	p[i].Fields[0].Type = ty("(U8 val | $A)")
	asks(t, p, place(t, p, "main.Cell", "put"), []asked{{set("c"), "main.Cell ref; U8 val", "", check.ErrView}, {set("c"), "main.Cell ref; $A", "", check.ErrSend}, {get("c", this), "main.Cell ref", "", check.ErrView}})
}

// TestRuleWays: sequences, branches, loops, tries, returns.
func TestRuleWays(t *testing.T) {
	p := program(t, cells.Text)
	c := place(t, p, "main.Cell", "get")
	branch := x(api.OpIf, "", yes, one, one)
	short := x(api.OpIf, "", yes, one, nothing)
	loop := x(api.OpWhile, "", yes, one, one)
	long := x(api.OpWhile, "", yes, one, nothing)
	try := x(api.OpTry, "", one, one, one)
	bare := x(api.OpTry, "", one, nothing, nothing)
	asks(t, p, c, []asked{
		{seq(), "", "None val", 0}, {seq(one, one), "U8 val; U32 val", "U32 val", 0}, {seq(one, one), "U8 val; ", "", 0}, {seq(one, one), "; U8 val", "U8 val", 0},
		{branch, "Bool val; U8 val; U32 val", "(U32 val | U8 val)", 0}, {branch, "Bool val; U8 val; U8 val", "U8 val", 0}, {branch, "Bool val; ; U8 val", "U8 val", 0}, {branch, "Bool val; ;", "", 0},
		{branch, "; U8 val; U8 val", "U8 val", 0}, {branch, "U8 val; U8 val; U8 val", "", api.ErrType}, {branch, "Bool box; U8 val; U8 val", "", api.ErrType}, {branch, "Bool ref; U8 val; U8 val", "", api.ErrType},
		{branch, "Bool val; main.Cell ref^; main.Cell ref", "main.Cell ref", 0},
		{short, "Bool val; U8 val;", "(None val | U8 val)", 0}, {short, "Bool val; ; U8 val", "None val", 0},
		{loop, "Bool val; U8 val; U32 val", "(None val | U32 val | U8 val)", 0}, {loop, "Bool val; ;", "None val", 0}, {loop, "None val; ;", "", api.ErrType}, {long, "Bool val; U8 val;", "(None val | U8 val)", 0},
		{try, "U8 val; U32 val; Bool val", "(U32 val | U8 val)", 0}, {try, "; ; Bool val", "", 0}, {bare, "U8 val; ;", "(None val | U8 val)", 0}, {bare, "; ;", "None val", 0},
		{fails, "", "", 0}, {x(api.OpBreak, ""), "", "", 0}, {x(api.OpContinue, ""), "", "", 0},
		{branch, "Bool val; U8 val; this", "(U8 val | this)", 0},
	})
	big := api.Type{Kind: api.TypeUnion}
	for i := range 64 {
		big.Args = append(big.Args, ty("N"+string(rune('a'+i%26))+string(rune('a'+i/26))+" val"))
	}
	if _, e := check.Rule(p, c, branch, []api.Type{ty("Bool val"), big, ty("U8 val")}); e != api.ErrSize {
		t.Errorf("a union that is too large: error %d", e)
	}
	if _, e := check.Rule(p, c, branch, []api.Type{ty("Bool val"), {Kind: 99}, ty("U8 val")}); e != api.ErrForm {
		t.Errorf("a union of no types: error %d", e)
	}
	back, empty := x(api.OpReturn, "", one), x(api.OpReturn, "")
	asks(t, p, c, []asked{{back, "main.Cell box", "", 0}, {back, "main.Cell val", "", 0}, {back, "", "", 0}, {back, "main.Cell tag", "", check.ErrResult}, {empty, "", "", check.ErrResult}})
	asks(t, p, place(t, p, "main.Cell", "create"), []asked{{back, "None val", "", 0}, {empty, "", "", 0}, {back, "main.Cell ref", "", check.ErrResult}})
	asks(t, p, place(t, p, "main.Worker", "tell"), []asked{{back, "None val", "", 0}, {empty, "", "", 0}, {back, "U8 val", "", check.ErrResult}})
	asks(t, p, place(t, p, "main.Cell", "view"), []asked{{back, "main.Cell box", "", 0}, {back, "main.Cell tag", "", check.ErrResult}})
	i, j := at(t, p, "main.Cell", "view")
	p[i].Methods[j].Result = api.Type{}
	asks(t, p, place(t, p, "main.Cell", "view"), []asked{{back, "None val", "", 0}, {back, "U8 val", "", check.ErrResult}, {empty, "", "", 0}})
	p[i].Methods[j].Result = ty("(this tag -> U8 ref)")
	asks(t, p, place(t, p, "main.Cell", "view"), []asked{{back, "None val", "", api.ErrCap}})
	p[i].Methods[j].Result, p[i].Methods[j].Cap = ty("None val"), 0
	asks(t, p, place(t, p, "main.Cell", "view"), []asked{{back, "None val", "", api.ErrCap}, {this, "", "", api.ErrForm}})
}

// TestRuleMatch: what matches have, and what cases may not claim.
func TestRuleMatch(t *testing.T) {
	p := program(t, cells.Text)
	c := place(t, p, "main.Cell", "get")
	match := func(guarded bool, l ...string) api.Expr {
		m := x(api.OpMatch, "", one)
		for _, s := range l {
			guard := nothing
			if guarded {
				guard = yes
			}
			m.Kids = append(m.Kids, tx(api.OpCase, "", s, guard, one))
		}
		return m
	}
	asks(t, p, c, []asked{
		{match(false, "U8 val", "None val"), "(U8 val | None val); U8 val; U32 val", "(U32 val | U8 val)", 0},
		{match(false, "U8 val"), "(U8 val | None val); U8 val", "(None val | U8 val)", 0},
		{match(true, "U8 val", "None val"), "(U8 val | None val); U8 val; U32 val", "(None val | U32 val | U8 val)", 0},
		{match(false, "Any tag"), "(main.Cell iso! | None val); U8 val", "U8 val", 0},
		{match(false, "main.Cell iso"), "(main.Cell iso! | None val); U8 val", "", check.ErrCases},
		{match(false, "main.Cell iso"), "(main.Cell iso | None val); U8 val", "(None val | U8 val)", 0},
		{match(false, "U8 val"), "; U8 val", "", api.ErrType}, {match(false, "U8 val", "None val"), "(U8 val | None val); ;", "", 0}, {match(false, "U8 val"), "(U8 val | None val);", "None val", 0},
		{match(false, "main.Named box"), "main.Cell ref; U8 val", "U8 val", 0}, {match(false, "(this ref -> U8 val)"), "U8 val; U8 val", "U8 val", 0}, {match(false, "(this tag -> U8 val)"), "U8 val; U8 val", "", api.ErrCap},
	})
	odd := match(false, "U8 val")
	odd.Kids[1].Types = nil
	asks(t, p, c, []asked{{odd, "U8 val; U8 val", "", check.ErrCases}})
	odd = match(false, "U8 val", "U8 val")
	odd.Kids[2].Kids = odd.Kids[2].Kids[:1]
	asks(t, p, c, []asked{{odd, "U8 val; U8 val; U8 val", "", check.ErrCases}, {odd, "; U8 val; U8 val", "", api.ErrType}})
	one := tx(api.OpCase, "", "U8 val", yes, one)
	bare := tx(api.OpCase, "x", "U8 val", nothing, this)
	asks(t, p, c, []asked{
		{one, "Bool val; U32 val", "U32 val", 0}, {one, "; U32 val", "U32 val", 0}, {one, "U8 val; U32 val", "", api.ErrType}, {bare, "U8 val; U32 val", "U32 val", 0}, {bare, ";", "", 0},
		{tx(api.OpCase, "", "$A", yes, this), "U8 val; U32 val", "", api.ErrForm}, {tx(api.OpCase, "", "this", nothing, this), "; U32 val", "", api.ErrForm},
		{tx(api.OpCase, "", "(this ref -> U8 val)", nothing, this), "; U32 val", "", api.ErrForm}, {tx(api.OpCase, "", "(main.Cell ref & main.Named box)", nothing, this), "; U32 val", "", api.ErrForm},
	})
}

// TestRuleCalls: receivers, arguments and results of calls.
func TestRuleCalls(t *testing.T) {
	p := program(t, cells.Text)
	c := place(t, p, "main.Cell", "get")
	call := func(s string, n int) api.Expr {
		return x(api.OpCall, s, slices.Repeat([]api.Expr{one}, n+1)...)
	}
	asks(t, p, c, []asked{
		{call("get", 0), "main.Cell box", "main.Cell box", 0}, {call("get", 0), "main.Cell ref", "main.Cell box", 0}, {call("get", 0), "main.Cell trn!", "main.Cell box", 0}, {call("get", 0), "main.Cell tag", "", check.ErrView},
		{call("get", 0), "main.Cell iso!", "", check.ErrView}, {call("get", 0), "main.Cell iso^", "main.Cell box", 0}, {call("raw", 0), "main.Cell box", "", check.ErrView}, {call("gone", 0), "main.Cell iso", "U32 val", 0},
		{call("gone", 0), "main.Cell iso!", "", check.ErrView}, {call("view", 0), "main.Cell ref", "main.Cell box", 0}, {call("may", 0), "main.Cell box", "U32 val", 0},
		{call("get", 0), "", "", api.ErrType}, {call("got", 0), "main.Cell ref", "", api.ErrNone}, {call("get", 0), "(U8 val, U8 val)", "", api.ErrNone}, {call("get", 0), "$A", "", api.ErrNone}, {call("get", 0), "this ref", "", api.ErrNone},
		{call("create", 1), "main.Cell ref; main.Cell ref", "", check.ErrPlace},
		{call("put", 2), "main.Cell ref; U32 val; main.Cell ref", "U32 val", 0}, {call("put", 2), "main.Cell ref; ; main.Cell ref", "U32 val", 0}, {call("put", 1), "main.Cell ref; U32 val", "", check.ErrArgs},
		{call("put", 3), "main.Cell ref; U32 val; main.Cell ref; U32 val", "", check.ErrArgs}, {call("put", 2), "main.Cell ref; U32 val; main.Cell box", "", check.ErrArgs}, {call("put", 2), "main.Cell box; U32 val; main.Cell box", "", check.ErrView},
		{call("get", 0), "main.Has box", "main.Cell box", 0}, {call("get", 0), "main.Has tag", "", check.ErrView}, {call("name", 0), "(main.Cell ref & main.Has ref)", "String val", 0}, {call("name", 0), "(main.Cell ref & main.Has box)", "", api.ErrType},
		{call("name", 0), "(main.Cell iso! & main.Has tag)", "", check.ErrView}, {call("name", 0), "(main.Cell ref | main.Named ref)", "String val", 0}, {call("name", 0), "(main.Cell ref | main.Has ref)", "", api.ErrNone},
		{call("tell", 1), "main.Worker tag; U32 val", "None val", 0}, {call("tell", 1), "main.Teller tag; U32 val", "None val", 0}, {call("take", 1), "main.Worker tag; main.Cell iso^", "None val", 0},
		{call("take", 1), "main.Worker tag; main.Cell iso!", "", check.ErrArgs}, {call("take", 1), "main.Worker tag; main.Cell ref", "", check.ErrArgs}, {call("me", 0), "main.Worker tag", "main.Worker tag", 0},
		{call("own", 0), "main.Worker tag", "", check.ErrView}, {call("tell", 1), "(main.Worker tag | main.Worker ref); U32 val", "None val", 0},
	})
	array := `"Array[main.Cell ref]"`
	asks(t, p, c, []asked{
		{call("apply", 1), array + " ref; USize val", "main.Cell ref", 0}, {call("apply", 1), array + " box; USize val", "main.Cell box", 0}, {call("apply", 1), array + " val; USize val", "main.Cell val", 0},
		{call("apply", 1), array + " trn!; USize val", "main.Cell box", 0}, {call("apply", 1), array + " iso!; USize val", "", check.ErrView}, {call("push", 1), array + " ref; main.Cell ref", "None val", 0},
		{call("push", 1), array + " box; main.Cell ref", "", check.ErrView}, {call("apply", 1), array + " ref; U32 val", "", check.ErrArgs},
		{call("add", 1), "U32 val; U32 val", "U32 val", 0}, {call("add", 1), "U32 val; U64 val", "", check.ErrArgs}, {call("string", 0), "(U32 val | None val)", "String val", 0},
	})
	i, j := at(t, p, "main.Cell", "gone")
	p[i].Methods[j].Params, p[i].Methods[j].Result = []api.Param{{Name: "x", Type: ty("this")}}, ty("this")
	asks(t, p, c, []asked{
		{call("gone", 1), "main.Cell iso; this iso", "this iso", 0}, {call("gone", 1), "main.Cell iso^; this iso^", "this iso", 0}, {call("gone", 1), "main.Cell iso; this iso!", "", check.ErrArgs},
		{call("gone", 1), "main.Cell iso; this box", "", check.ErrArgs},
	})
	asks(t, p, place(t, p, "main.Cell", "gone"), []asked{{x(api.OpReturn, "", one), "this iso", "", 0}, {x(api.OpReturn, "", one), "this iso!", "", check.ErrResult}})
	i, j = at(t, p, "main.Worker", "tell")
	p[i].Methods[j].Params = []api.Param{{Name: "x", Type: ty("this")}}
	asks(t, p, c, []asked{{call("tell", 1), "main.Worker ref; this tag", "None val", 0}, {call("tell", 1), "main.Worker ref; main.Worker ref", "", check.ErrArgs}})
	i, j = at(t, p, "main.Cell", "view")
	p[i].Methods[j].Params = []api.Param{{Name: "x", Type: ty("(this -> main.Cell iso)")}}
	asks(t, p, c, []asked{{call("view", 1), "main.Cell ref; main.Cell tag", "main.Cell box", 0}})
	p[i].Methods[j].Params[0].Type = ty("(this tag -> U8 val)")
	asks(t, p, c, []asked{{call("view", 1), "main.Cell ref; main.Cell tag", "", api.ErrCap}, {call("view", 0), "main.Cell ref", "", check.ErrArgs}})
	p[i].Methods[j].Params, p[i].Methods[j].Result = nil, api.Type{}
	asks(t, p, c, []asked{{call("view", 0), "main.Cell ref", "None val", 0}})
	p[i].Methods[j].Result = ty("(this tag -> U8 val)")
	asks(t, p, c, []asked{{call("view", 0), "main.Cell ref", "", api.ErrCap}})
	p[i].Methods[j].Cap = 0
	asks(t, p, c, []asked{{call("view", 0), "main.Cell ref", "", check.ErrView}})
}

// TestRuleReceivers: only what the runtime gives to builtin concrete entities means the receiver as it is called.
func TestRuleReceivers(t *testing.T) {
	p := program(t, cells.Text)
	c := place(t, p, "main.Cell", "get")
	call := x(api.OpCall, "view", one)
	view := api.Method{Kind: api.Fun, Name: "view", Cap: api.Box, Result: ty("(this -> main.Cell ref)")}
	p = append(p, api.Entity{Kind: api.Class, Name: "B1", Cap: api.Ref, Methods: []api.Method{view}}, api.Entity{Kind: api.Primitive, Name: "B2[m.C ref]", Cap: api.Val, Methods: []api.Method{view}},
		api.Entity{Kind: api.Trait, Name: "B3", Cap: api.Ref, Methods: []api.Method{view}}, api.Entity{Kind: api.Class, Name: "m.B4", Cap: api.Ref, Methods: []api.Method{view}})
	view.Body = fails
	p = append(p, api.Entity{Kind: api.Class, Name: "B5", Cap: api.Ref, Methods: []api.Method{view}})
	asks(t, p, c, []asked{
		{call, "B1 ref", "main.Cell ref", 0}, {call, "B1 trn!", "main.Cell box", 0}, {call, `"B2[m.C ref]" val`, "main.Cell val", 0}, {call, "B3 ref", "main.Cell box", 0}, {call, "m.B4 ref", "main.Cell box", 0}, {call, "B5 ref", "main.Cell box", 0},
		{call, `(B1 val | "B2[m.C ref]" val)`, "main.Cell val", 0}, {call, "(B1 ref | B3 ref)", "main.Cell box", 0}, {call, "(B1 ref & m.X ref)", "main.Cell box", 0}, {call, "(B1 iso^ | B1 iso)", "", check.ErrView}, {call, "(B1 ref^ | B1 ref!)", "main.Cell ref", 0},
	})
}

// TestRuleNew: constructions.
func TestRuleNew(t *testing.T) {
	p := program(t, cells.Text)
	c := place(t, p, "main.Cell", "get")
	create := func(s, typ string, n int) api.Expr {
		return tx(api.OpNew, s, typ, slices.Repeat([]api.Expr{one}, n)...)
	}
	asks(t, p, c, []asked{
		{create("create", "main.Cell val", 1), "main.Cell ref", "main.Cell ref", 0}, {create("create", "main.Cell iso!", 1), "", "main.Cell ref", 0}, {create("create", "main.Cell ref", 1), "main.Cell box", "", check.ErrArgs},
		{create("create", "main.Cell ref", 0), "", "", check.ErrArgs}, {create("create", "main.Worker tag", 1), "U32 val", "main.Worker tag", 0}, {create("create", "main.Prim val", 0), "", "main.Prim val", 0},
		{create("sent", "main.Leaf ref", 1), "U32 val", "main.Leaf iso^", 0}, {create("odd", "main.Leaf ref", 1), "U32 val", "main.Leaf box", 0}, {create("create", "main.Leaf ref", 0), "", "main.Leaf ref", 0},
		{create("get", "main.Cell ref", 0), "", "", api.ErrNone}, {create("x", "main.Cell ref", 0), "", "", api.ErrNone}, {create("tell", "main.Worker tag", 1), "U32 val", "", api.ErrNone},
		{create("create", "main.Named box", 0), "", "", api.ErrType}, {create("get", "main.Has box", 0), "", "", api.ErrType}, {create("create", "main.X ref", 0), "", "", api.ErrType}, {create("create", "main.Cell[U8 val] ref", 1), "main.Cell ref", "", api.ErrType},
	})
	i, j := at(t, p, "main.Cell", "create")
	p[i].Methods[j].Params[0].Type = ty("(this -> main.Cell ref)")
	asks(t, p, c, []asked{{create("create", "main.Cell val", 1), "main.Cell ref", "main.Cell ref", 0}, {create("create", "main.Cell val", 1), "main.Cell box", "", check.ErrArgs}})
	p[i].Methods[j].Params[0].Type = ty("(this tag -> main.Cell ref)")
	asks(t, p, c, []asked{{create("create", "main.Cell val", 1), "main.Cell ref", "", api.ErrCap}})
	p[i].Methods[j].Params, p[i].Methods[j].Cap = nil, 0
	asks(t, p, c, []asked{{create("create", "main.Cell val", 0), "", "", api.ErrForm}})
	p[i].Bounds = make([]api.Bound, 1)
	asks(t, p, c, []asked{{create("create", "main.Cell val", 0), "", "", api.ErrType}})
}

// TestRuleParts: recover blocks, tuples and their elements.
func TestRuleParts(t *testing.T) {
	p := program(t, cells.Text)
	c := place(t, p, "main.Cell", "get")
	rec := func(s string) api.Expr { return tx(api.OpRecover, "", s, one) }
	item := func(s string) api.Expr { return x(api.OpItem, s, one) }
	pair := x(api.OpTuple, "", one, one)
	asks(t, p, c, []asked{
		{rec("this"), "main.Cell ref", "main.Cell iso^", 0}, {rec("this iso"), "main.Cell ref", "main.Cell iso", 0}, {rec("this val"), "main.Cell ref", "main.Cell val", 0}, {rec("this"), "main.Cell box", "main.Cell val", 0},
		{rec("this iso"), "main.Cell box", "", check.ErrSend}, {rec("this"), "main.Cell iso!", "main.Cell tag", 0}, {rec("this val!"), "(main.Cell trn, main.Cell val)", "(main.Cell val, main.Cell val)", 0},
		{rec("this"), "", "", 0}, {rec("this"), "$A", "", check.ErrSend}, {rec("this ref"), "main.Cell tag", "", check.ErrSend}, {rec("this"), "(main.Cell ref, U8 val)", "(main.Cell iso^, U8 val)", 0},
		{pair, "U8 val; main.Cell iso!", "(U8 val, main.Cell iso!)", 0}, {pair, "; U8 val", "", 0}, {pair, "U8 val; ", "", 0}, {pair, "(U8 val, U8 val); U8 val", "((U8 val, U8 val), U8 val)", 0},
		{item("0"), "(U8 val, U32 val)", "U8 val", 0}, {item("1"), "(U8 val, U32 val)", "U32 val", 0}, {item("2"), "(U8 val, U32 val)", "", api.ErrRange}, {item("63"), "(U8 val, U32 val)", "", api.ErrRange},
		{item("0"), "", "", api.ErrType}, {item("0"), "(U8 val | U32 val)", "", api.ErrType}, {item("0"), "U8 val", "", api.ErrType},
	})
	deep := ty("U8 val")
	for range 19 {
		deep = api.Type{Kind: api.TypeTuple, Args: []api.Type{deep, ty("U8 val")}}
	}
	if _, e := check.Rule(p, c, pair, []api.Type{deep, ty("U8 val")}); e != api.ErrSize {
		t.Errorf("a tuple that is too deep: error %d", e)
	}
	if got, e := check.Rule(p, c, pair, []api.Type{deep, {}}); e != api.OK || got.Kind != 0 {
		t.Errorf("a tuple without a value: error %d", e)
	}
	if _, e := check.Rule(p, c, pair, []api.Type{{Kind: 99}, ty("U8 val")}); e != api.ErrSize {
		t.Errorf("a tuple of no types: error %d", e)
	}
}
