package check_test

import (
	"testing"

	"hackamore/api"
	"hackamore/check"
	"hackamore/samples"
)

// oddContext returns any context.
func oddContext(m *samples.Maker) check.Context {
	c := check.Context{Entity: m.Below(6) - 1, Method: m.Below(4) - 1}
	for range m.Below(5) {
		c.Locals = append(c.Locals, check.Local{Name: m.OddName(), Param: m.Below(2) == 0, Always: m.Below(2) == 0, Type: m.AnyType(2), Region: m.Number()})
	}
	for range m.Below(3) {
		c.Regions = append(c.Regions, m.Number())
	}
	return c
}

// TestOddPrograms: any programs have an error or a certificate, the same one again, and stay as they are.
func TestOddPrograms(t *testing.T) {
	for seed := range uint64(3000) {
		p, again := samples.New(seed).OddProgram(), samples.New(seed).OddProgram()
		f, e := check.Program(p)
		c, g, also := check.Check(p)
		if e != api.OK && (also != e || !same(f, g)) || also != api.OK && len(c.Bodies) > 0 || also == api.OK && !same(g, check.Fault{}) {
			t.Fatalf("%d: errors %d and %d", seed, e, also)
		}
		if d, h, e := check.Check(p); !same(c, d) || !same(g, h) || e != also || !same(p, again) {
			t.Fatalf("%d: another answer, or another program", seed)
		}
		for i := -1; i <= len(p); i++ {
			for j := -1; j < 4; j++ {
				oddMethod(t, p, i, j)
			}
		}
		if !same(p, again) {
			t.Fatalf("%d: another program", seed)
		}
	}
}

// oddMethod checks a method of any program.
func oddMethod(t *testing.T, p []api.Entity, i, j int) {
	t.Helper()
	has := i >= 0 && i < len(p) && j >= 0 && j < len(p[i].Methods)
	c, e := check.Begin(p, i, j)
	if !has && e != api.ErrRange || e != api.OK && !same(c, check.Context{}) {
		t.Fatalf("Begin of %d, %d: %v, error %d", i, j, c, e)
	}
	b, f, also := check.Method(p, i, j)
	switch {
	case !has && (also != api.ErrRange || !same(f, check.Fault{})):
		t.Fatalf("Method of %d, %d: %v, error %d", i, j, f, also)
	case has && e != api.OK && (also != e || !same(f, check.Fault{Entity: i, Method: j})):
		t.Fatalf("Method of %d, %d: %v, error %d", i, j, f, also)
	case also != api.OK && !same(b, check.Body{}), also == api.OK && (b.Entity != i || b.Method != j):
		t.Fatalf("Method of %d, %d: %v, error %d", i, j, b, also)
	}
}

// TestOddRules: any expressions in any contexts.
func TestOddRules(t *testing.T) {
	codes := map[api.Errno]int{}
	for seed := range uint64(12000) {
		m := samples.New(seed)
		p, c, x := m.OddProgram(), oddContext(m), m.OddExpr(3)
		var kids []api.Type
		for range x.Kids {
			kids = append(kids, m.AnyType(2))
		}
		if m.Below(20) == 0 {
			kids = append(kids, api.Type{})
		}
		keep := plain([]any{plain(p), plain(c), plain(x), plain(kids)})
		got, e := check.Rule(p, c, x, kids)
		again, also := check.Rule(p, c, x, kids)
		if !same(got, again) || e != also || e != api.OK && !same(got, api.Type{}) {
			t.Fatalf("%d: %v, error %d", seed, got, e)
		}
		if !same(keep, []any{plain(p), plain(c), plain(x), plain(kids)}) {
			t.Fatalf("%d: arguments were changed", seed)
		}
		codes[e]++
		path, wrong := check.Shape(x)
		if wrong == api.OK && len(path) > 0 || wrong != api.OK && wrong != api.ErrForm {
			t.Fatalf("%d: error %d at %v", seed, wrong, path)
		}
		check.Claims(p, m.AnyType(3), m.AnyType(3))
	}
	for _, e := range []api.Errno{api.OK, api.ErrSize, api.ErrRange, api.ErrForm, api.ErrType} {
		if codes[e] == 0 {
			t.Errorf("no error %d", e)
		}
	}
}

// TestOwnMemory: what is changed in a result changes nothing else.
func TestOwnMemory(t *testing.T) {
	p := []api.Entity{{Kind: api.Class, Name: "m.C", Cap: api.Ref, Methods: []api.Method{{Kind: api.Fun, Name: "f", Cap: api.Box, Params: []api.Param{{Name: "a", Type: ty("(U8 val, U8 val)")}}, Body: local("a")}}}}
	kids := tys("(U8 val, U8 val); (U8 val, U8 val)")
	for _, n := range []api.Expr{seq(one, one), x(api.OpTuple, "", one, one)} {
		got, _ := check.Rule(p, check.Context{}, n, kids)
		for i := range got.Args {
			got.Args[i].Name = "X"
			for j := range got.Args[i].Args {
				got.Args[i].Args[j].Name = "X"
			}
		}
	}
	if !same(kids, tys("(U8 val, U8 val); (U8 val, U8 val)")) {
		t.Error("a rule shares its Kids' types")
	}
	c, _ := check.Begin(p, 0, 0)
	c.Locals[0].Type.Args[0].Name = "X"
	p[0].Methods[0].Body = seq(local("a"), local("a"))
	p[0].Methods[0].Result = ty("(U8 val, U8 val)")
	b, _, e := check.Method(p, 0, 0)
	if e != api.OK {
		t.Fatalf("error %d", e)
	}
	b.Types[0].Args[0].Name = "X"
	if p[0].Methods[0].Params[0].Type.Args[0].Name != "U8" || b.Types[1].Args[0].Name != "U8" || b.Types[2].Args[0].Name != "U8" {
		t.Error("types share their memory")
	}
}
