package check_test

import (
	"fmt"
	"slices"
	"testing"

	"hackamore/api"
	"hackamore/cap"
	"hackamore/cells"
	"hackamore/check"
	"hackamore/flow"
	"hackamore/subtype"
	"hackamore/types"
	"hackamore/walk"
)

// chance returns the program of cells, and where its function put is.
func chance(t *testing.T) ([]api.Entity, int, int) {
	p := program(t, cells.Text)
	i, j := at(t, p, cells.Entity, cells.Method)
	return p, i, j
}

// nodes returns the nodes of a body in the order of the walk, with their paths.
func nodes(x api.Expr, path []int, visit func(x api.Expr, path []int)) {
	visit(x, path)
	if x.Op == 0 {
		return
	}
	for i, k := range x.Kids {
		nodes(k, append(slices.Clip(path), i), visit)
	}
}

// TestParts (P13.2, P13.3): a type for each expression; Check fails where Program or a Method fails, first of all; an entity
// that nothing names changes nothing else.
func TestParts(t *testing.T) {
	p, i, j := chance(t)
	extra := api.Entity{Kind: api.Class, Name: "main.Zed", Cap: api.Ref, Fields: []api.Field{{Name: "z", Type: ty("U32 val")}}, Methods: []api.Method{{Kind: api.Fun, Name: "z", Cap: api.Box, Result: ty("U32 val"), Body: get("z", this)}}}
	for seed := range uint64(300) {
		p[i].Methods[j].Body = cells.New(seed, 60).Body(6)
		b, f, e := check.Method(p, i, j)
		c, g, also := check.Check(p)
		if e != also || !same(f, g) || e == api.OK && !slices.ContainsFunc(c.Bodies, func(x check.Body) bool { return same(x, b) }) {
			t.Fatalf("%d: error %d at %v, and %d at %v", seed, e, f, also, g)
		}
		count := 0
		nodes(p[i].Methods[j].Body, nil, func(x api.Expr, _ []int) {
			if e == api.OK && (x.Op == 0 || x.Op == api.OpReturn || x.Op == api.OpError || x.Op == api.OpBreak) && b.Types[count].Kind != 0 {
				t.Fatalf("%d: a value of the op %d", seed, x.Op)
			}
			count++
		})
		if e == api.OK && count != len(b.Types) {
			t.Fatalf("%d: %d types of %d nodes", seed, len(b.Types), count)
		}
		more, h, e2 := check.Check(append(slices.Clone(p), extra))
		if e2 != also || !same(h, g) || e2 == api.OK && !same(more.Bodies[:len(c.Bodies)], c.Bodies) || e2 == api.OK && len(more.Bodies) != len(c.Bodies)+1 {
			t.Fatalf("%d: with an entity more the error %d at %v", seed, e2, h)
		}
	}
}

// TestFields (P13.4): in bodies that are taken all is written through what writes, behaviours get what is sendable, and
// recover blocks meet what is sendable.
func TestFields(t *testing.T) {
	p, i, j := chance(t)
	sets, sent, met := 0, 0, 0
	for seed := range uint64(800) {
		body := cells.New(seed, 80).Body(6)
		p[i].Methods[j].Body = body
		b, _, e := check.Method(p, i, j)
		if e != api.OK {
			continue
		}
		at, index := map[string]api.Type{}, 0
		declared := map[string]int{"n": 0, "o": 0}
		var regions [][]int
		nodes(body, nil, func(x api.Expr, path []int) {
			at[fmt.Sprint(path)] = b.Types[index]
			index++
			depth := 0
			for _, r := range regions {
				if len(path) > len(r) && slices.Equal(path[:len(r)], r) {
					depth++
				}
			}
			switch x.Op {
			case api.OpRecover:
				regions = append(regions, path)
			case api.OpVar, api.OpLet, api.OpCase:
				declared[x.Text] = depth
			case api.OpLocal:
				if declared[x.Text] < depth {
					met++
					if !types.Sendable(at[fmt.Sprint(path)]) {
						t.Fatalf("%d: %s in a recover block", seed, x.Text)
					}
				}
			}
		})
		nodes(body, nil, func(x api.Expr, path []int) {
			kid := func(k int) api.Type { return at[fmt.Sprint(append(slices.Clip(path), k))] }
			switch {
			case x.Op == api.OpSet:
				sets++
				if c := walk.Counts(kid(0).Cap, kid(0).Mark); !cap.Writes(c) || !types.Storable(c, kid(1)) {
					t.Fatalf("%d: written through %d", seed, c)
				}
			case x.Op == api.OpCall && (x.Text == "tell" || x.Text == "take"):
				sent++
				if !types.Sendable(kid(1)) {
					t.Fatalf("%d: sent: %v", seed, kid(1))
				}
			}
		})
	}
	if sets < 100 || sent < 100 || met < 20 {
		t.Errorf("%d written, %d sent, %d met", sets, sent, met)
	}
	for _, c := range []string{"box", "val", "tag", "iso!", "trn!"} {
		if _, e := check.Rule(p, check.Context{Entity: i, Method: j}, x(api.OpSet, "v", this, one), tys("main.Cell "+c+"; U32 val")); e != check.ErrView {
			t.Errorf("written through %s: error %d", c, e)
		}
	}
	for origin := api.Iso; origin <= api.Tag; origin++ {
		for field := api.Iso; field <= api.Tag; field++ {
			p[i].Fields[0].Type.Cap = field
			on := ty("main.Cell ref")
			on.Cap = origin
			got, e := check.Rule(p, check.Context{Entity: i, Method: j}, get("c", this), []api.Type{on})
			if e != api.OK {
				continue
			}
			_, wrong := check.Rule(p, check.Context{Entity: i, Method: j}, x(api.OpSet, "v", this, one), []api.Type{got, ty("U32 val")})
			if wrong == api.OK && (origin == api.Box || origin == api.Val) {
				t.Errorf("what is read through %d of %d can be written", origin, field)
			}
		}
	}
}

// TestWeaker (P13.5): where a value fits, a value of a subtype fits.
func TestWeaker(t *testing.T) {
	p, i, j := chance(t)
	c := check.Context{Entity: i, Method: j, Locals: []check.Local{{Name: "a", Always: true, Type: ty("(main.Cell box | None val)")}}}
	p[i].Methods[j].Params[1].Type = ty("(main.Cell box | None val)")
	p[i].Methods[j].Result = ty("(main.Cell box | None val)")
	p[i].Fields[0].Type = ty("(main.Cell box | None val)")
	l := tys("main.Cell iso^; main.Cell iso; main.Cell iso!; main.Cell trn^; main.Cell trn; main.Cell ref; main.Cell val; main.Cell box; main.Cell tag; None val; main.Named box; Any tag; (main.Cell ref | None val); (main.Cell ref & main.Named ref); (main.Cell ref, None val)")
	l = append(l, api.Type{})
	places := []func(a api.Type) (api.Type, api.Errno){
		func(a api.Type) (api.Type, api.Errno) { return check.Rule(p, c, assign("a", one), []api.Type{a}) },
		func(a api.Type) (api.Type, api.Errno) {
			return check.Rule(p, c, let("b", "(main.Cell box | None val)", one), []api.Type{a})
		},
		func(a api.Type) (api.Type, api.Errno) {
			return check.Rule(p, c, call("put", this, one, one), []api.Type{ty("main.Cell ref"), ty("U32 val"), a})
		},
		func(a api.Type) (api.Type, api.Errno) {
			return check.Rule(p, c, tx(api.OpNew, "create", "main.Cell ref", one), []api.Type{a})
		},
		func(a api.Type) (api.Type, api.Errno) {
			return check.Rule(p, c, x(api.OpReturn, "", one), []api.Type{a})
		},
		func(a api.Type) (api.Type, api.Errno) {
			return check.Rule(p, c, x(api.OpIf, "", yes, one, one), []api.Type{a, ty("U8 val"), ty("U8 val")})
		},
	}
	fits := 0
	for k, place := range places {
		for _, b := range l {
			want, e := place(b)
			if e != api.OK {
				continue
			}
			fits++
			for _, a := range l {
				if a.Kind != 0 && !subtype.Is(p, a, b) {
					continue
				}
				if got, e := place(a); e != api.OK || !same(got, want) {
					t.Errorf("place %d: %s fits, %s is the error %d", k, text(b), text(a), e)
				}
			}
		}
	}
	if fits < 30 {
		t.Errorf("only %d fit", fits)
	}
}

// TestFlow: what flow says of a body that all rules take.
func TestFlow(t *testing.T) {
	p, i, j := chance(t)
	faults := 0
	for seed := range uint64(1500) {
		p[i].Methods[j].Body = cells.New(seed, 0).Body(6)
		_, f, e := check.Method(p, i, j)
		if e != api.OK && e < 130 || e >= 136 {
			continue
		}
		var partial [][]int
		nodes(p[i].Methods[j].Body, nil, func(x api.Expr, path []int) {
			if x.Op == api.OpCall && x.Text == "may" {
				partial = append(partial, path)
			}
		})
		r, wrong := flow.Check(p[i], j, partial)
		if wrong != api.OK {
			t.Fatalf("%d: error %d", seed, wrong)
		}
		if e == api.OK && len(r.Faults) > 0 || e != api.OK && (len(r.Faults) == 0 || r.Faults[0].Code != e || !slices.Equal(r.Faults[0].Path, f.Path)) {
			t.Fatalf("%d: error %d at %v, not %v", seed, e, f, r.Faults)
		}
		if e != api.OK {
			faults++
		}
	}
	if faults < 10 {
		t.Errorf("only %d faults", faults)
	}
}
