package lower_test

import (
	"slices"
	"strings"
	"testing"

	"hackamore/api"
	"hackamore/lower"
	"hackamore/meaning"
	"hackamore/ssa"
	"hackamore/walk"
	"hackamore/world"
)

// body returns a program with a body in go.
func body(t *testing.T, e api.Expr) []api.Entity {
	t.Helper()
	return with(parsed(t, text), e, one)
}

// TestExamples: those of the chapter.
func TestExamples(t *testing.T) {
	f, e := lower.Method(body(t, returns(local("a"))), "main.Main", "go")
	if e != api.OK {
		t.Fatalf("error %d", e)
	}
	f, _ = ssa.Promote(f)
	f, _ = ssa.Clean(f)
	if want := []ssa.Block{{End: ssa.End{Kind: ssa.Return, Args: []int{1}}}}; !alike(f.Blocks, want) {
		t.Errorf("blocks %v", f.Blocks)
	}
	next := assign("a", call("add", local("a"), one))
	three := seq(assign("a", lit("0")), while(call("lt", local("a"), lit("3")), next, nothing), local("a"))
	p := body(t, three)
	if !compare(t, p, nil, nil, 5000) {
		t.Error("a loop does not come to rest")
	}
	s, _ := lower.Run(lowered(t, p), p, nil, nil, 5000)
	if !slices.ContainsFunc(s.Trace, func(s api.Send) bool { return s.Name == "add" && slices.Equal(s.Args, []string{"U32 3"}) }) {
		t.Errorf("a loop that counts to 3: %v", s.Trace)
	}
}

// TestMethod: names, parameters, results, and methods that others provide.
func TestMethod(t *testing.T) {
	p := parsed(t, text)
	named := func(s string) []api.Type {
		var l []api.Type
		for typ := range strings.SplitSeq(s, "; ") {
			l = append(l, ty(typ))
		}
		return l
	}
	for _, c := range []struct {
		entity, method, params, result string
		partial                        bool
	}{
		{"main.Main", "go", "main.Main ref; U32 val; U32 val; main.Cell ref", "U32 val", false}, {"main.Cell", "may", "main.Cell box; U32 val", "U32 val", true}, {"main.Cell", "get", "main.Cell box", "U32 val", false},
		{"main.Cell", "name", "main.Cell box", "String val", false}, {"main.Red", "name", "main.Red box", "String val", false}, {"main.Named", "name", "main.Named box", "String val", false},
		{"main.Worker", "tell", "main.Worker tag; U32 val", "None val", false}, {"main.Leaf", "fails", "main.Leaf ref; Bool val", "main.Leaf ref^", true}, {"main.Worker", "create", "main.Worker tag; U32 val", "main.Worker tag^", false},
		{"Range", "next", "Range ref", "USize val", true},
	} {
		f, e := lower.Method(p, c.entity, c.method)
		if e != api.OK || f.Name != c.entity+"."+c.method || !alike(f.Params, named(c.params)) || !alike(f.Result, ty(c.result)) || f.Partial != c.partial {
			t.Errorf("%s.%s: error %d, %s %v %v %t", c.entity, c.method, e, f.Name, f.Params, f.Result, f.Partial)
		}
		if at, e := ssa.CheckFunc(f); e != api.OK {
			t.Errorf("%s.%s is not right: error %d at %v", c.entity, c.method, e, at)
		}
	}
	for _, c := range [][2]string{{"main.Main", "none"}, {"none", "go"}, {"U32", "add"}, {"Out", "print"}, {"", ""}, {"main.Cell", "create2"}, {"main.Teller", "name"}} {
		if f, e := lower.Method(p, c[0], c[1]); e != world.ErrMethod || !alike(f, ssa.Func{}) {
			t.Errorf("%v: error %d", c, e)
		}
	}
}

// TestWrongPrograms: the error of a program.
func TestWrongPrograms(t *testing.T) {
	p := parsed(t, text)
	for i, c := range []struct {
		p    []api.Entity
		want api.Errno
	}{
		{nil, world.ErrMethod}, {append(slices.Clone(p), p[0]), api.ErrTwice}, {slices.Repeat(p, 10), api.ErrSize}, {slices.DeleteFunc(slices.Clone(p), func(e api.Entity) bool { return e.Name == "Env" }), world.ErrMethod},
	} {
		if f, e := lower.Lower(c.p); e != c.want || !alike(f, ssa.Program{}) {
			t.Errorf("%d: Lower: error %d, not %d", i, e, c.want)
		}
		if f, e := lower.Method(c.p, "main.Main", "go"); e != c.want || !alike(f, ssa.Func{}) {
			t.Errorf("%d: Method: error %d, not %d", i, e, c.want)
		}
		if s, end := lower.Run(ssa.Program{}, c.p, nil, nil, 100); !alike(s, world.State{}) || end != (meaning.End{Kind: meaning.Stuck, Actor: -1, Code: c.want}) {
			t.Errorf("%d: Run: %v", i, end)
		}
	}
}

// TestLower: which entities and functions there are, and their order.
func TestLower(t *testing.T) {
	p := walk.Program(parsed(t, text))
	i := slices.IndexFunc(p, func(e api.Entity) bool { return e.Name == "main.Named" })
	p[i].Methods = append(p[i].Methods, api.Method{Kind: api.Fun, Name: "get", Body: one}, api.Method{Kind: api.Fun, Name: "size", Body: one}, api.Method{Kind: api.Fun, Name: "more"})
	*method(p, "main.Cell", "get") = api.Method{Kind: api.Fun, Name: "get"}
	f := lowered(t, p)
	want := walk.Program(p)
	for i := range want {
		for j := range want[i].Methods {
			want[i].Methods[j].Body = api.Expr{}
		}
	}
	if !alike(f.Entities, want) {
		t.Error("the entities")
	}
	var names []string
	for _, x := range f.Funcs {
		names = append(names, x.Name)
		dot := strings.LastIndexByte(x.Name, '.')
		if own, e := lower.Method(p, x.Name[:dot], x.Name[dot+1:]); e != api.OK || !ssa.Equal(own, x) {
			t.Errorf("%s is not what Method returns", x.Name)
		}
	}
	list := "Range.create Range.has_next Range.next main.Leaf.create main.Leaf.make main.Leaf.fails main.Cell.create main.Cell.put main.Cell.deep main.Cell.may main.Cell.then_n main.Cell.odd main.Cell.tell main.Cell.name main.Cell.size " +
		"main.Red.size main.Red.name main.Red.get main.Worker.create main.Worker.add main.Worker.take main.Worker.tell main.Other.create main.Other.tell main.Main.create main.Main.go main.Main.may_go main.Main.again"
	if !slices.Equal(names, strings.Fields(list)) {
		t.Errorf("the functions: %v", names)
	}
}

// TestErrLower: bodies that are not as they are asked for when they are run.
func TestErrLower(t *testing.T) {
	two := func(e api.Expr) api.Expr { e.Types = append(slices.Clone(e.Types), ty("U8 val")); return e }
	bare := func(e api.Expr) api.Expr { e.Types = nil; return e }
	branch := cased("", "U32 val", nothing, one)
	wide := func(n int) api.Expr { return seq(slices.Repeat([]api.Expr{one}, n-1)...) }
	deep := one
	for range 99 {
		deep = seq(deep)
	}
	for i, e := range []api.Expr{
		x(0, "", one), x(27, ""), x(-1, ""), bare(one), two(one), x(api.OpLocal, "a", one), x(api.OpThis, "", one), x(api.OpGet, "n"), x(api.OpGet, "n", this, this), x(api.OpSet, "n", this), variable("z", "U8 val", one, one), bare(variable("z", "U8 val")),
		two(variable("z", "U8 val", one)), x(api.OpAssign, "a"), x(api.OpConsume, "a", one), x(api.OpIf, "", yes, one), x(api.OpWhile, "", yes, one), x(api.OpMatch, ""), x(api.OpTry, "", one, one), x(api.OpError, "", one), returns(one, one), x(api.OpBreak, "", one),
		x(api.OpCall, "go"), bare(create("main.Leaf ref", "create")), x(api.OpRecover, "", one), tx(api.OpRecover, "", "this iso"), tuple(one), x(api.OpItem, "0"), x(api.OpIs, "", one), x(api.OpUnit, ""), two(nix), breaks, continues, seq(one, breaks),
		branch, seq(branch), match(branch), match(one, one), match(one, branch, nothing), match(one, bare(branch)), match(one, two(branch)), match(one, tx(api.OpCase, "", "U8 val", one)), match(one, cased("", "U8 val", breaks, one)), match(one, cased("", "U8 val", nothing, nothing)),
		nothing1(one), when(nothing, one, one), when(yes, nothing, one), while(nothing, one, one), while(yes, nothing, one), try(nothing, one, one), while(yes, one, breaks), while(yes, one, seq(continues)), seq(nothing), call("go", nothing), returns(nothing),
		lit("-1"), lit("x"), lit("4294967296"), tx(api.OpLit, "yes", "Bool val"), tx(api.OpLit, "1", "None val"), tx(api.OpLit, "", "Bool val"), x(api.OpItem, "", this), x(api.OpItem, "01", this), x(api.OpItem, "-1", this), x(api.OpItem, "+1", this), x(api.OpItem, "x", this), x(api.OpItem, "1 ", this),
		wide(4001), seq(deep), when(no, breaks, one), try(one, one, breaks), tuple(slices.Repeat([]api.Expr{one}, 65)...), call("go", slices.Repeat([]api.Expr{one}, 65)...), str("\xff"), x(api.OpGet, "", this), x(api.OpGet, strings.Repeat("x", 201), this), manyBlocks(),
	} {
		p := body(t, seq(one, e))
		if i == 67 || i == 68 {
			p = body(t, e)
		}
		if f, e := lower.Method(p, "main.Main", "go"); e != lower.ErrLower || !alike(f, ssa.Func{}) {
			t.Errorf("%d: Method: error %d", i, e)
		}
		if f, e := lower.Lower(p); e != lower.ErrLower || !alike(f, ssa.Program{}) {
			t.Errorf("%d: Lower: error %d", i, e)
		}
		if _, e := lower.Method(p, "main.Main", "may_go"); e != api.OK {
			t.Errorf("%d: another method: error %d", i, e)
		}
	}
	for i, e := range []api.Expr{
		wide(4000), deep, when(yes, one, x(0, "x", breaks)), while(yes, breaks, nothing), while(breaks, continues, one), while(yes, while(yes, one, breaks), nothing), while(yes, try(continues, breaks, breaks), nothing), match(one), match(one, cased("", "U8 val", nothing, one)),
		try(one, nothing, nothing), returns(), variable("z", "U8 val"), variable("", "U8 val", one), local("missing"), assign("missing", one), x(api.OpConsume, "missing"), x(api.OpItem, "64", tuple(one, one)), x(api.OpItem, "99999999999999999999", tuple(one, one)), x(api.OpItem, "63", this),
		create("none ref", "create"), create("main.Leaf ref", "none"), create("main.Leaf ref", "create", one), create("main.Worker tag", "create"), flat("Array[none]", "create"), flat("Array[x", "create"), create("U8 val", "create", one), create("U8 val", "create"), create("main.Named ref", "name"),
		str(strings.Repeat("é", 10000)), str(""), tx(api.OpUnit, "", "none val"), call("none", one), two(call("go", this, one)), tuple(slices.Repeat([]api.Expr{one}, 64)...), call("go", slices.Repeat([]api.Expr{one}, 64)...),
	} {
		p := body(t, e)
		f, code := lower.Method(p, "main.Main", "go")
		if at, wrong := ssa.CheckFunc(f); code != api.OK || wrong != api.OK {
			t.Errorf("right %d: error %d, %d at %v", i, code, wrong, at)
		}
		compare(t, p, nil, nil, 500)
	}
}

// nothing1 is none, but has a Kid.
func nothing1(e api.Expr) api.Expr { return api.Expr{Kids: []api.Expr{e}} }

// manyBlocks needs more blocks than a function has.
func manyBlocks() api.Expr {
	return seq(slices.Repeat([]api.Expr{when(call("lt", local("a"), one), call("add", x(api.OpGet, "w", this), one), nothing)}, 300)...)
}

// TestNames: functions with one name, and with names that are too long, or none.
func TestNames(t *testing.T) {
	p := walk.Program(parsed(t, text))
	add := func(entity, method string) []api.Entity {
		e := api.Entity{Kind: api.Class, Name: entity, Methods: []api.Method{{Kind: api.Fun, Name: method, Body: one, Result: ty("U32 val")}}}
		return append(walk.Program(p), e)
	}
	for i, q := range [][]api.Entity{add("main", "Main.go"), add(strings.Repeat("x", 197), "get"), add("\xff", "get")} {
		if f, e := lower.Lower(q); e != lower.ErrLower || !alike(f, ssa.Program{}) {
			t.Errorf("%d: error %d", i, e)
		}
	}
	for i, q := range [][]api.Entity{add("main", "Main.g"), add(strings.Repeat("x", 196), "get"), add("", "")} {
		if !compare(t, q, nil, nil, 5000) {
			t.Errorf("right %d", i)
		}
	}
	if _, e := lower.Method(add(strings.Repeat("x", 197), "get"), strings.Repeat("x", 197), "get"); e != lower.ErrLower {
		t.Errorf("a name that is too long: error %d", e)
	}
	many := walk.Program(p)
	for len(many) < 199 {
		e := api.Entity{Kind: api.Class, Name: "c" + strings.Repeat("x", len(many))}
		for _, name := range []string{"a", "b", "c"} {
			e.Methods = append(e.Methods, api.Method{Kind: api.Fun, Name: name, Body: one})
		}
		e.Name = e.Name[:min(len(e.Name), 150)] + string(rune('a'+len(many)%26)) + string(rune('a'+len(many)/26))
		many = append(many, e)
	}
	if _, e := lower.Lower(many); e != lower.ErrLower {
		t.Errorf("too many functions: error %d", e)
	}
	wide := walk.Program(p)
	m := method(wide, "main.Main", "go")
	m.Params = slices.Repeat([]api.Param{{Name: "p"}}, 64)
	if _, e := lower.Method(wide, "main.Main", "go"); e != lower.ErrLower {
		t.Errorf("too many parameters: error %d", e)
	}
}

// TestOddNames: names of parameters that occur twice, locals that stand for others, behaviours and functions with one name.
func TestOddNames(t *testing.T) {
	p := walk.Program(parsed(t, text))
	m := method(p, "main.Main", "go")
	m.Params[0].Name = "b"
	for i, e := range []api.Expr{
		local("b"), seq(variable("b", "U32 val", lit("7")), local("b")), seq(assign("b", lit("8")), call("add", assign("b", one), local("b"))),
		seq(variable("v", "Any tag", nix), while(call("lt", local("b"), lit("9")), seq(assign("v", assign("b", call("add", local("b"), one))), one), nothing), match(local("v"), cased("k", "U32 val", nothing, local("k")))),
		seq(variable("s", "U32 val", one), x(api.OpConsume, "s"), match(assign("s", lit("4")), cased("", "None val", nothing, lit("44")), cased("k", "U32 val", nothing, local("k")))),
		seq(variable("s", "U32 val"), match(assign("s", lit("4")), cased("", "None val", nothing, lit("44")), cased("k", "U32 val", nothing, local("k")))),
		seq(variable("s", "U32 val", one), while(call("lt", local("b"), lit("9")), seq(assign("b", call("add", local("b"), one)), assign("s", call("add", x(api.OpConsume, "s"), one))), nothing), local("s")),
		seq(variable("t", "Any tag", create("main.Other tag", "create")), call("tell", local("t"), one), call("tell", x(api.OpGet, "w", this), one), call("tell", local("c"), lit("30"))),
		seq(call("tell", x(api.OpGet, "w", this), one), match(call("tell", x(api.OpGet, "w", this), one), cased("", "None val", nothing, lit("5")))),
		seq(variable("o", "Any tag", flat("Array[U32 val]", "create")), call("push", local("o"), lit("6")), try(call("apply", local("o"), tx(api.OpLit, "0", "USize val")), one, nothing)),
		match(tuple(one, nix), cased("k", "(U32 val, None val)", nothing, x(api.OpItem, "0", local("k")))), x(api.OpGet, "n", tx(api.OpRecover, "", "this iso", create("main.Leaf ref", "make", lit("2")))),
		call("u32", call("size", tx(api.OpUnit, "", "main.Red val"))), call("u32", call("size", str(strings.Repeat("é", 5000)))), call("u32", call("size", call("string", local("a")))),
		seq(create("main.Red val", "create", create("main.Worker tag", "create", one)), lit("3")), seq(x(api.OpGet, "none", x(api.OpSet, "k", this, lit("2"))), one),
	} {
		m.Body = e
		if i == 14 {
			method(p, "main.Main", "go").Params[0].Name = "a"
		}
		rests := compare(t, p, nil, nil, 2000)
		if rests == (i == 16) {
			t.Errorf("%d: comes to rest: %t", i, rests)
		}
	}
}

// TestMemory: the program is not changed, and nothing is shared with it.
func TestMemory(t *testing.T) {
	p := parsed(t, text)
	before := walk.Program(p)
	f := lowered(t, p)
	f.Entities[0].Methods = append(f.Entities[0].Methods, api.Method{})
	for i := range f.Entities {
		for j := range f.Entities[i].Methods {
			f.Entities[i].Methods[j].Name = "z"
		}
	}
	for i := range f.Funcs {
		x := &f.Funcs[i]
		for j := range x.Params {
			x.Params[j].Name = "z"
		}
		for j := range x.Blocks {
			for k := range x.Blocks[j].Ins {
				x.Blocks[j].Ins[k].Type.Name = "z"
				for n := range x.Blocks[j].Ins[k].Type.Args {
					x.Blocks[j].Ins[k].Type.Args[n].Name = "z"
				}
			}
		}
	}
	if !alike(p, before) {
		t.Error("the program was changed")
	}
}
