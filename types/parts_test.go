package types_test

import (
	"reflect"
	"slices"
	"testing"

	"hackamore/api"
	"hackamore/cap"
	"hackamore/samples"
	. "hackamore/types"
	"hackamore/walk"
)

// TestParts: the functions that replace parts, by texts.
func TestParts(t *testing.T) {
	plain := func(f func(api.Type) (api.Type, api.Errno)) func(api.Type, int) (api.Type, api.Errno) {
		return func(x api.Type, _ int) (api.Type, api.Errno) { return f(x) }
	}
	seen := func(x api.Type, c int) (api.Type, api.Errno) { return Seen(c, x) }
	extracted := func(x api.Type, c int) (api.Type, api.Errno) { return Extracted(c, x) }
	for _, x := range []struct {
		what string
		f    func(api.Type, int) (api.Type, api.Errno)
		rows [][3]string // the type, the capability, the result
	}{
		{"With", With, [][3]string{
			{"C iso!", "ref", "C ref"}, {"(C iso | ($A^, this))", "val", "(C val | ($A val, this val))"}, {"(this -> (C ref & D ref))", "box", "(C box & D box)"},
			{"($A -> (this -> L[(this -> C ref)] ref))", "tag", "L[(this -> C ref)] tag"}, {"C ref", "", "error 13"}, {"C ref", "#any", "error 13"},
		}},
		{"Aliased", plain(Aliased), [][3]string{
			{"C iso^", "", "C iso"}, {"C iso", "", "C iso!"}, {"C trn!", "", "C trn!"}, {"C ref!", "", "C ref"}, {"$A", "", "$A!"}, {"$A^", "", "$A"}, {"this!", "", "this!"},
			{"(this iso -> $A iso)", "", "(this iso -> $A iso!)"}, {"(C iso | (D trn^, E val^))", "", "(C iso! | (D trn, E val))"}, {"L[C iso] iso", "", "L[C iso] iso!"},
		}},
		{"Consumed", plain(Consumed), [][3]string{
			{"C iso^", "", "C iso^"}, {"C iso", "", "C iso^"}, {"C trn!", "", "C trn!"}, {"C ref!", "", "C ref"}, {"$A", "", "$A^"}, {"$A!", "", "$A!"}, {"this^", "", "this^"},
			{"($A iso -> this)", "", "($A iso -> this^)"}, {"(C iso & (D trn!, E box!))", "", "(C iso^ & (D trn!, E box))"},
		}},
		{"Seen", seen, [][3]string{
			{"main.Cell ref", "box", "main.Cell box"}, {"C iso!", "ref", "C tag"}, {"C trn!", "ref", "C box"}, {"C iso^", "ref", "C iso"}, {"$A ref", "val", "$A val"},
			{"$A", "ref", "error 2"}, {"$A", "tag", "error 2"}, {"C ref", "tag", "error 13"}, {"(C ref | $A)", "tag", "error 13"}, {"($A | C ref)", "tag", "error 2"},
			{"this", "ref", "error 2"}, {"this ref", "iso", "this tag"}, {"(this -> C ref)", "ref", "error 2"}, {"($A -> C ref)", "ref", "error 2"},
			{"(this box -> C ref)", "ref", "C box"}, {"(this ref -> C ref)", "box", "C box"}, {"($A val -> C iso)", "iso", "C val"}, {"($A iso -> C trn)", "trn", "C tag"},
			{"(this ref -> (this box -> C iso))", "ref", "C tag"}, {"(this iso! -> C ref)", "ref", "error 13"}, {"(this trn! -> C trn)", "ref", "C box"},
			{"(C ref, (D iso & E tag))", "trn", "(C box, (D iso & E tag))"}, {"L[C ref] ref", "val", "L[C ref] val"}, {"C ref", "", "error 13"}, {"$A", "#any", "error 13"},
		}},
		{"Extracted", extracted, [][3]string{
			{"C iso", "ref", "C iso^"}, {"C iso!", "ref", "C tag"}, {"C trn", "ref", "C trn^"}, {"C trn", "trn", "C box"}, {"C trn!", "ref", "C box"}, {"C trn^", "iso", "C tag"},
			{"C ref", "val", "error 13"}, {"C ref", "tag", "error 13"}, {"$A", "ref", "error 2"}, {"(this -> C ref)", "ref", "error 2"}, {"(this ref -> C iso)", "ref", "C iso^"},
			{"(this box -> C iso)", "ref", "C tag"}, {"(C iso | D ref!)", "trn", "(C iso^ | D box)"}, {"C ref", "", "error 13"}, {"$A", "#read", "error 13"},
		}},
		{"Recovered", Recovered, [][3]string{
			{"C ref", "", "C iso^"}, {"C trn!", "", "C val"}, {"C iso!", "", "C tag"}, {"C iso", "", "C iso^"}, {"(C ref | (D box, E tag))", "", "(C iso^ | (D val, E tag))"},
			{"C ref", "val", "C val"}, {"C ref", "iso", "C iso"}, {"C box", "val", "C val"}, {"C box", "ref", "error 13"}, {"C val", "iso", "error 13"}, {"C tag", "tag", "C tag"},
			{"C tag", "box", "error 13"}, {"(C ref | D box)", "val", "(C val | D val)"}, {"(C ref | D box)", "trn", "error 13"}, {"$A", "", "error 2"}, {"(this -> C ref)", "", "error 2"},
			{"(this box -> C ref)", "", "C val"}, {"(this val -> C ref)", "iso", "error 13"}, {"$A ref", "", "$A iso^"}, {"$A", "#any", "error 13"}, {"C ref", "#any", "error 13"},
			{"(C box | $A)", "iso", "error 13"}, {"($A | C box)", "iso", "error 2"},
		}},
	} {
		for _, row := range x.rows {
			c, _ := cap.Parse(row[1])
			r, e := x.f(typ(t, row[0]), c)
			if got := shown(t, r, e); got != row[2] {
				t.Errorf("%s of %s, %s: %s, want %s", x.what, row[0], row[1], got, row[2])
			}
		}
	}
}

// TestStorable: what may be written, and what may be sent.
func TestStorable(t *testing.T) {
	for s, want := range map[string]string{ // the origins through which it is storable, and # if it is sendable
		"C iso": "iso trn ref #", "C iso!": "iso trn ref #", "C trn": "trn ref", "C trn!": "ref", "C trn^": "trn ref", "C ref": "ref", "C val": "iso trn ref #",
		"C box": "ref", "C tag!": "iso trn ref #", "(C iso | D val)": "iso trn ref #", "(C iso, D trn)": "trn ref", "(C val & D box)": "ref",
		"$A": "", "$A val": "iso trn ref #", "this": "", "this tag": "iso trn ref #", "(this -> C val)": "", "(this ref -> C val)": "", "(C val | (this ref -> C val))": "",
		"(C val | $A)": "", "L[(this -> C ref)] val": "iso trn ref #", "L[$A] val": "iso trn ref #",
	} {
		x, got := typ(t, s), ""
		for c := -1; c < 13; c++ {
			if Storable(c, x) {
				got += " " + cap.Name(c)
			}
		}
		if Sendable(x) {
			got += " #"
		}
		if want != "" {
			want = " " + want
		}
		if got != want {
			t.Errorf("%s: %q, want %q", s, got, want)
		}
	}
}

// plain returns a type without marks, whose parts all have capabilities, and without arrows.
func plain(t api.Type) api.Type {
	if t.Kind == api.TypeArrow {
		return plain(t.Args[1])
	}
	t.Mark = api.Plain
	if t.Kind == api.TypeParam || t.Kind == api.TypeSelf {
		t.Cap = max(t.Cap, api.Iso)
	}
	l := t.Args
	t.Args = nil
	for _, a := range l {
		t.Args = append(t.Args, plain(a))
	}
	return t
}

// TestCapabilities: P8.5 for types by chance.
func TestCapabilities(t *testing.T) {
	for seed := range uint64(5000) {
		x := made(samples.New(seed))
		p := plain(x)
		c, _ := Consumed(p)
		if a, e := Aliased(c); e != api.OK || !Equal(a, p) {
			t.Errorf("Aliased of Consumed of %s: %s", shown(t, p, api.OK), shown(t, a, e))
		}
		if s, e := Seen(api.Ref, p); e != api.OK || !Equal(s, p) {
			t.Errorf("Seen through ref of %s: %s", shown(t, p, api.OK), shown(t, s, e))
		}
		if Storable(api.Iso, x) && !Sendable(x) {
			t.Errorf("%s is storable through iso, and not sendable", shown(t, x, api.OK))
		}
		if r, e := Recovered(x, 0); e == api.OK && !Sendable(r) {
			t.Errorf("Recovered of %s is %s, which is not sendable", shown(t, x, api.OK), shown(t, r, e))
		}
		for c := api.Iso; c <= api.Tag; c++ {
			w, e := With(x, c)
			if e != api.OK || walk.HasArrow(w) {
				t.Errorf("With of %s: %s", shown(t, x, api.OK), shown(t, w, e))
			}
			for part := range walk.Parts(w) {
				if part.Cap != c || part.Mark != api.Plain {
					t.Errorf("With of %s: %s", shown(t, x, api.OK), shown(t, w, e))
				}
			}
		}
	}
}

// bare returns a type without capabilities and marks at its type parameters, and without arrows.
func bare(t api.Type) api.Type {
	if t.Kind == api.TypeParam {
		t.Cap, t.Mark = 0, 0
	}
	if t.Kind == api.TypeArrow {
		return bare(t.Args[1])
	}
	l := t.Args
	t.Args = nil
	for _, a := range l {
		t.Args = append(t.Args, bare(a))
	}
	return t
}

// TestSubstOfAll: P8.4 for types by chance.
func TestSubstOfAll(t *testing.T) {
	params := []string{"A", "B", "C'"}
	var own []api.Type
	for _, p := range params {
		own = append(own, api.Type{Kind: api.TypeParam, Name: p})
	}
	twice := 0
	for seed := range uint64(4000) {
		m := samples.New(seed)
		x := made(m)
		if r, e := Subst(x, params, own); e != api.OK {
			t.Errorf("Subst of %s by its parameters: error %d", shown(t, x, api.OK), e)
		} else if a, e := Normal(r); e == api.OK {
			b, f := Normal(x)
			if !Equal(a, b) {
				t.Errorf("Subst of %s by its parameters: %s, Normal %s, error %d", shown(t, x, api.OK), shown(t, r, e), shown(t, b, f), f)
			}
		}
		if r, e := Subst(x, []string{"D", ""}, own[:2]); e != api.OK || !Equal(r, x) {
			t.Errorf("Subst of %s by others: %s", shown(t, x, api.OK), shown(t, r, e))
		}
		args := []api.Type{m.CoreType(2, entities), m.CoreType(2, entities), m.CoreType(1, entities)}
		if r, e := Subst(x, params, args); e == api.OK {
			if s, e := Self(r, api.Ref, api.Plain); e == api.OK && allReified(args) && !Reified(s) {
				t.Errorf("Subst and Self of %s: %s", shown(t, x, api.OK), shown(t, s, e))
			}
		}
		y := bare(x)
		first := []api.Type{bare(made(m)), bare(made(m)), bare(made(m))}
		one, e := Subst(y, params, first)
		if e != api.OK {
			continue
		}
		two, e := Subst(one, params, args)
		if e != api.OK {
			continue
		}
		var at []api.Type
		for _, a := range first {
			a, _ = Subst(a, params, args)
			at = append(at, a)
		}
		if other, e := Subst(y, params, at); e == api.OK {
			twice++
			if !Equal(two, other) {
				t.Errorf("Subst twice of %s: %s, at once %s", shown(t, y, api.OK), shown(t, two, api.OK), shown(t, other, e))
			}
		}
	}
	if twice < 1000 {
		t.Errorf("only %d types were replaced twice", twice)
	}
}

func allReified(l []api.Type) bool {
	return !slices.ContainsFunc(l, func(t api.Type) bool { return !Reified(t) })
}

// TestMethod: types in methods are replaced, in order.
func TestMethod(t *testing.T) {
	at := func(s string) api.Type { return typ(t, s) }
	m := api.Method{
		Kind: api.Fun, Name: "m", Cap: api.Box, Partial: true,
		Bounds: []api.Bound{{Name: "A", Type: at("I box")}, {Name: "B", Type: at("L[$A] box")}},
		Params: []api.Param{{Name: "x", Type: at("$A")}, {Name: "y", Type: api.Type{}}},
		Result: at("$B^"),
		Body: api.Expr{Op: api.OpSeq, Kids: []api.Expr{
			{Op: api.OpVar, Text: "z", Types: []api.Type{at("$A!")}, Kids: []api.Expr{{Op: api.OpCall, Text: "f", Types: []api.Type{at("$B"), at("$A")}, Kids: []api.Expr{{Op: api.OpThis}}}}},
			{Op: api.OpUnit, Types: []api.Type{at("None val")}},
		}},
	}
	r, e := Method(m, []string{"A"}, []api.Type{at("C iso")})
	want := m
	want.Bounds = []api.Bound{{Name: "B", Type: at("L[C iso] box")}}
	want.Params = []api.Param{{Name: "x", Type: at("C iso")}, {Name: "y"}}
	want.Body = walk.Map(m.Body, func(x api.Type) api.Type {
		x, _ = Subst(x, []string{"A"}, []api.Type{at("C iso")})
		return x
	})
	if e != api.OK || !reflect.DeepEqual(r, want) {
		t.Errorf("Method: %v, error %d, want %v", r, e, want)
	}
	if r, e := Method(api.Method{Name: "n"}, nil, nil); e != api.OK || !reflect.DeepEqual(r, api.Method{Name: "n"}) {
		t.Errorf("Method of one without types: %v, error %d", r, e)
	}
	wrong := api.Type{Kind: 9}
	for i, x := range []struct {
		change func(m *api.Method)
		arg    api.Type
		want   api.Errno
	}{
		{func(m *api.Method) { m.Bounds[0].Type = wrong }, at("C iso"), api.OK}, // it is left out
		{func(m *api.Method) { m.Bounds[1].Type = wrong }, at("C iso"), api.ErrForm},
		{func(m *api.Method) { m.Bounds[1].Type = Named("Any", api.CapAny, nil) }, at("C iso"), api.ErrForm},
		{func(m *api.Method) { m.Params[1].Type = deep(21); m.Result = wrong }, at("C iso"), api.ErrSize},
		{func(m *api.Method) { m.Params[0].Type = wrong; m.Result = deep(21) }, at("C iso"), api.ErrForm},
		{func(m *api.Method) { m.Result = deep(21) }, wrong, api.ErrForm},
		{func(m *api.Method) { m.Result = api.Type{Name: "x"} }, at("C iso"), api.OK},
		{func(m *api.Method) { m.Result = api.Type{Name: "x"} }, wrong, api.ErrForm},
		{func(m *api.Method) { m.Result = at("(A ref, A ref)"); m.Result.Args[0] = api.Type{} }, at("C iso"), api.ErrForm},
		{func(m *api.Method) { m.Body.Kids[0].Types[0] = wrong; m.Body.Kids[0].Kids[0].Types[1] = deep(21) }, at("C iso"), api.ErrForm},
		{func(m *api.Method) { m.Body.Kids[1].Types[0] = wrong; m.Body.Kids[0].Kids[0].Types[1] = deep(21) }, at("C iso"), api.ErrSize},
		{func(m *api.Method) { m.Bounds[1].Type = wrong; m.Body = tall(101) }, at("C iso"), api.ErrSize},
		{func(m *api.Method) { m.Body = tall(100) }, at("C iso"), api.OK},
		{func(m *api.Method) { m.Body.Kids = make([]api.Expr, 3999) }, at("C iso"), api.OK},
		{func(m *api.Method) { m.Body.Kids = make([]api.Expr, 4000) }, at("C iso"), api.ErrSize},
	} {
		c := m
		c.Bounds, c.Params, c.Body = slices.Clone(m.Bounds), slices.Clone(m.Params), walk.Expr(m.Body)
		x.change(&c)
		if r, e := Method(c, []string{"A"}, []api.Type{x.arg}); e != x.want || e != api.OK && !reflect.DeepEqual(r, api.Method{}) {
			t.Errorf("%d: error %d, want %d", i, e, x.want)
		}
	}
	if _, e := Method(api.Method{Body: tall(101)}, []string{"A"}, nil); e != api.ErrArg {
		t.Errorf("Method without an argument: error %d", e)
	}
}

// TestMethodKindZero: a type of the Kind 0 stays as it is in a method, whatever else it has.
func TestMethodKindZero(t *testing.T) {
	deepZero := api.Type{Args: []api.Type{deep(21)}}
	for i, z := range []api.Type{{}, {Mark: api.Ephemeral}, {Mark: -7}, {Cap: api.CapAny}, {Name: "a"}, {Args: []api.Type{{}}}, {Args: []api.Type{typ(t, "$A")}}, deepZero} {
		for what, m := range map[string]api.Method{
			"a bound":     {Bounds: []api.Bound{{Name: "B", Type: z}}},
			"a parameter": {Params: []api.Param{{Name: "x", Type: z}, {Name: "y", Type: typ(t, "C ref")}}},
			"the result":  {Result: z},
			"the body":    {Body: api.Expr{Op: api.OpSeq, Kids: []api.Expr{{Op: api.OpUnit, Types: []api.Type{typ(t, "C ref"), z}}}}},
		} {
			if r, e := Method(m, []string{"A"}, []api.Type{typ(t, "C iso")}); e != api.OK || !reflect.DeepEqual(r, m) {
				t.Errorf("%s, type %d: %v, error %d", what, i, r, e)
			}
		}
	}
}

// tall returns an expression of so many levels.
func tall(levels int) api.Expr {
	x := api.Expr{Op: api.OpThis}
	for range levels - 1 {
		x = api.Expr{Op: api.OpSeq, Kids: []api.Expr{x}}
	}
	return x
}

// TestMemory: results share no memory with arguments, and arguments stay as they are.
func TestMemory(t *testing.T) {
	arg := typ(t, "L[C ref] ref")
	r, _ := Subst(typ(t, "($A, $A)"), []string{"A"}, []api.Type{arg})
	r.Args[0].Args[0].Name = "X"
	if arg.Args[0].Name != "C" || r.Args[1].Args[0].Name != "C" {
		t.Error("a replaced type shares its memory")
	}
	x := typ(t, "(B ref | (A ref | L[C ref] ref))")
	n, _ := Normal(x)
	u, _ := Union(x.Args)
	s, _ := Seen(api.Box, x)
	for _, l := range []api.Type{n, u, s} {
		for i := range l.Args {
			l.Args[i].Name = "X"
		}
	}
	if !Equal(x, typ(t, "(B ref | (A ref | L[C ref] ref))")) {
		t.Error("an argument has changed")
	}
}
