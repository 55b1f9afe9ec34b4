package check_test

import (
	"slices"
	"testing"

	"hackamore/api"
	"hackamore/cap"
	"hackamore/cells"
	"hackamore/check"
	"hackamore/samples"
	"hackamore/subtype"
	"hackamore/types"
)

// TestClaims: what cases may claim of operands.
func TestClaims(t *testing.T) {
	p := program(t, cells.Text)
	for _, l := range []struct {
		operand, claim string
		want           bool
	}{
		{"main.Cell ref", "main.Cell ref", true}, {"main.Cell ref", "main.Cell box", true}, {"main.Cell box", "main.Cell ref", false}, {"main.Cell iso!", "main.Cell tag", true},
		{"main.Cell iso", "main.Cell ref", false}, {"main.Cell iso^", "main.Cell ref", true}, {"main.Cell iso!", "main.Leaf iso", true}, {"main.Cell iso!", "main.Named iso", false},
		{"(main.Cell iso! | None val)", "main.Cell iso", false}, {"(main.Cell iso! | None val)", "None val", true}, {"None val", "(main.Cell iso | None val)", true},
		{"Any tag", "U8 val", false}, {"Any val", "U8 val", true}, {"main.Named box", "main.Prim ref", true}, {"main.Named box", "main.Leaf ref", true}, {"main.Named box", "main.Cell ref", false},
		{"(main.Cell ref & main.Named ref)", "main.Cell ref", false}, {"(main.Cell ref & main.Named ref)", "main.Leaf iso", true}, {"main.Leaf ref", "(main.Cell ref & main.Named ref)", true},
		{"((main.Cell ref | main.Leaf ref) & (main.Leaf ref | main.Prim val))", "main.Leaf ref", false}, {"((main.Cell ref | main.Leaf ref) & (main.Leaf ref | main.Prim val))", "main.Cell iso", true},
		{"(main.Cell ref | (main.Cell box | main.Leaf val))", "main.Leaf ref", false}, {"(main.Cell ref | (main.Cell box | main.Leaf val))", "main.Leaf box", true},
		{"(U8 val, main.Cell ref)", "(U8 val, main.Cell box)", true}, {"(U8 val, main.Cell box)", "(U8 val, main.Cell ref)", false}, {"(U8 val, main.Cell box)", "(U32 val, main.Cell ref)", true},
		{"(U8 val, main.Cell box)", "(U8 val, main.Cell ref, U8 val)", true}, {"(U8 val, U8 val)", "main.Cell ref", true}, {"main.Cell ref", "(U8 val, U8 val)", true}, {"(U8 val, U8 val)", "Any iso", true},
		{"((U8 val | main.Cell box), U8 val)", "(U8 val, U8 val)", true}, {"((U8 val | main.Cell box), U8 val)", "(main.Cell ref, U8 val)", false}, {"((U8 val | main.Cell box), U8 val)", "(main.Cell ref, U32 val)", true},
		{"((U8 val, U8 val) & (U8 val, U8 val))", "(U8 val, U8 val)", false}, {"((U8 val, U8 val) & main.Cell ref)", "((U8 val, U8 val) & U8 val)", false}, {"((U8 val, U8 val) & main.Cell ref)", "main.Cell iso", true},
		{"(main.Cell ref & ((U8 val, U8 val) | U8 val))", "(main.Cell ref, main.Cell ref)", false}, {"(main.Cell ref & (main.Named ref | (U8 val, U8 val)))", "main.Cell ref", false},
		{"((U8 val, U8 val) | main.Cell box)", "main.Cell ref", false}, {"((U8 val, U8 val) | main.Cell box)", "((U8 val, U8 val) | main.Leaf ref)", true}, {"((U8 val, (U8 val, U8 val)), U8 val)", "((U8 val, U8 val), U8 val)", true},
		{"((U8 val, main.Cell box), U8 val)", "((U8 val, main.Cell ref), U8 val)", false}, {"((U8 val, main.Cell box), U8 val)", "((U8 val, main.Cell ref), U32 val)", true}, {"(((U8 val, U32 val) & Any val), U8 val)", "(U8 val, U8 val)", true},
		{"$A", "$A", true}, {"this ref", "main.Cell ref", true}, {"main.X ref", "main.X iso", true}, {"(this ref -> main.Cell ref)", "main.Cell iso", true},
		{"main.Has box", "main.Cell val", false}, {"main.Has val", "main.Cell val", true}, {"main.Has box", "main.Leaf val", true},
	} {
		if got := check.Claims(p, ty(l.operand), ty(l.claim)); got != l.want {
			t.Errorf("%s, %s: %v", l.operand, l.claim, got)
		}
	}
	for i := range p {
		if p[i].Name == "main.Worker" {
			p[i].Name, p[i].Kind = "main.Odd", api.Trait
		}
	}
	if !check.Claims(p, ty("main.Odd box"), ty("main.Teller iso")) {
		t.Error("a trait alone is something")
	}
	bad := api.Type{Kind: api.TypeName, Name: "U8"}
	for _, good := range []api.Type{ty("U8 val"), ty("(U8 val, U8 val)"), ty("main.X val")} {
		if check.Claims(p, bad, good) || check.Claims(p, good, bad) || check.Claims(p, api.Type{}, good) || check.Claims(p, good, api.Type{}) {
			t.Error("a type with an error")
		}
	}
}

// slow tells claims by the words of the chapter, without remembering anything.
type slow struct{ p []api.Entity }

func (s slow) parts(t api.Type) []api.Type {
	if t.Kind != api.TypeUnion {
		return []api.Type{t}
	}
	var l []api.Type
	for _, a := range t.Args {
		l = append(l, s.parts(a)...)
	}
	return l
}

func (s slow) takes(t api.Type, name string) bool {
	count := 0
	for _, a := range t.Args {
		if t.Kind != api.TypeName && s.takes(a, name) {
			count++
		}
	}
	switch t.Kind {
	case api.TypeUnion:
		return count > 0
	case api.TypeBoth:
		return count == len(t.Args)
	}
	return subtype.Bare(s.p, types.Named(name, api.Ref, nil), t)
}

func (s slow) common(a, b api.Type) bool {
	if a.Kind == api.TypeUnion || b.Kind == api.TypeUnion {
		return slices.ContainsFunc(s.parts(a), func(x api.Type) bool {
			return slices.ContainsFunc(s.parts(b), func(y api.Type) bool { return s.common(x, y) })
		})
	}
	if a.Kind == api.TypeTuple && b.Kind == api.TypeTuple && len(a.Args) == len(b.Args) {
		for i := range a.Args {
			if !s.common(a.Args[i], b.Args[i]) {
				return false
			}
		}
		return true
	}
	for _, e := range s.p {
		if (e.Kind == api.Class || e.Kind == api.Actor || e.Kind == api.Primitive) && s.takes(a, e.Name) && s.takes(b, e.Name) {
			return true
		}
	}
	return false
}

func (s slow) tuple(t api.Type) bool {
	return t.Kind == api.TypeTuple || (t.Kind == api.TypeUnion || t.Kind == api.TypeBoth) && slices.ContainsFunc(t.Args, s.tuple)
}

func (s slow) claims(o, c api.Type) bool {
	if types.Check(o) != api.OK || types.Check(c) != api.OK {
		return false
	}
	for _, x := range s.parts(o) {
		for _, y := range s.parts(c) {
			if !s.agree(x, y) {
				return false
			}
		}
	}
	return true
}

func (s slow) agree(x, y api.Type) bool {
	if x.Kind == api.TypeTuple && y.Kind == api.TypeTuple {
		if len(x.Args) != len(y.Args) {
			return true
		}
		all, apart := true, false
		for i := range x.Args {
			all = all && s.claims(x.Args[i], y.Args[i])
			apart = apart || !s.common(x.Args[i], y.Args[i])
		}
		return all || apart
	}
	if s.tuple(x) && s.tuple(y) {
		return false
	}
	if x.Kind == api.TypeTuple || y.Kind == api.TypeTuple || !s.common(x, y) {
		return true
	}
	return x.Kind == api.TypeName && y.Kind == api.TypeName && cap.Fits(x.Cap, x.Mark, y.Cap, y.Mark)
}

// TestClaimsByChance: the words of the chapter; all alternatives claim, and none of them matters for its place.
func TestClaimsByChance(t *testing.T) {
	all := map[string]int{"main.Cell": 0, "main.Leaf": 0, "main.Named": 0, "main.Has": 0, "U8": 0, "Any": 0}
	p := slices.DeleteFunc(program(t, cells.Text), func(e api.Entity) bool { _, ok := all[e.Name]; return !ok })
	s := slow{p}
	yes, no := 0, 0
	for seed := range uint64(3000) {
		m := samples.New(seed)
		o, c := m.CoreType(3, all), m.CoreType(3, all)
		if m.Below(3) == 0 {
			o = api.Type{Kind: api.TypeTuple, Args: []api.Type{o, m.CoreType(2, all)}}
			c = api.Type{Kind: api.TypeTuple, Args: []api.Type{c, m.CoreType(2, all)}}
		}
		got := check.Claims(p, o, c)
		if got != s.claims(o, c) {
			t.Fatalf("%s, %s: %v", text(o), text(c), got)
		}
		if got {
			yes++
		} else {
			no++
		}
		both := api.Type{Kind: api.TypeUnion, Args: []api.Type{c, o}}
		if check.Claims(p, o, both) != (got && check.Claims(p, o, o)) || check.Claims(p, both, c) != (got && check.Claims(p, c, c)) {
			t.Fatalf("%s, %s: not by its alternatives", text(o), text(c))
		}
	}
	if yes < 300 || no < 300 {
		t.Errorf("%d hold, %d do not", yes, no)
	}
}
