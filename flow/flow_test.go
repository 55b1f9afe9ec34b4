package flow_test

import (
	"reflect"
	"slices"
	"strconv"
	"strings"
	"testing"

	"hackamore/api"
	. "hackamore/flow"
	"hackamore/samples"
)

// ops are the operations by their names in the texts of these tests; a point stands ahead of those that have a Text.
const ops = "lit .local this .get .set .var .let .assign .consume seq if while match .case try error return break continue .call .new recover tuple .item is unit"

// body returns the expression of a text like (seq (var x 1) x): a word is a local variable, a number a literal, and _ is none.
func body(t testing.TB, s string) api.Expr {
	t.Helper()
	words := strings.Fields(strings.NewReplacer("(", " ( ", ")", " ) ").Replace(s))
	var read func() api.Expr
	read = func() api.Expr {
		w := words[0]
		words = words[1:]
		switch {
		case w == "_":
			return api.Expr{}
		case w == "this":
			return api.Expr{Op: api.OpThis}
		case w >= "0" && w < ":":
			return api.Expr{Op: api.OpLit, Text: w}
		case w != "(":
			return api.Expr{Op: api.OpLocal, Text: w}
		}
		var x api.Expr
		name := words[0]
		words = words[1:]
		for i, op := range strings.Fields(ops) {
			if strings.TrimPrefix(op, ".") == name {
				x.Op = i + 1
				if op[0] == '.' {
					x.Text = strings.Trim(words[0], "-")
					words = words[1:]
				}
			}
		}
		if x.Op == 0 {
			t.Fatalf("no operation %s in %s", name, s)
		}
		for words[0] != ")" {
			x.Kids = append(x.Kids, read())
		}
		words = words[1:]
		return x
	}
	return read()
}

// entity returns an entity with the let field f, the var field g, and a method.
func entity(kind int, partial bool, b api.Expr, params ...string) api.Entity {
	m := api.Method{Kind: kind, Name: "m", Cap: api.Ref, Partial: partial, Body: b}
	for _, p := range params {
		m.Params = append(m.Params, api.Param{Name: p})
	}
	return api.Entity{Kind: api.Class, Name: "C", Fields: []api.Field{{Name: "f", Let: true}, {Name: "g"}, {Name: "f"}}, Methods: []api.Method{{}, m}}
}

func pathText(path []int) string {
	var l []string
	for _, i := range path {
		l = append(l, strconv.Itoa(i))
	}
	return "[" + strings.Join(l, " ") + "]"
}

// show returns the text of a report: its faults, and e, n and the fields.
func show(r Report) string {
	var l []string
	for _, f := range r.Faults {
		l = append(l, []string{"Unset", "Set", "Field", "Loop", "Partial", "Dead"}[f.Code-ErrUnset]+pathText(f.Path))
	}
	if r.Errors {
		l = append(l, "errors")
	}
	if r.Ends {
		l = append(l, "ends")
	}
	return strings.Join(append(l, r.Fields...), " ")
}

// calls returns the paths of all calls and constructions whose name begins with an e.
func calls(x api.Expr, at []int) [][]int {
	var l [][]int
	if (x.Op == api.OpCall || x.Op == api.OpNew) && strings.HasPrefix(x.Text, "e") {
		l = append(l, slices.Clone(at))
	}
	for i, k := range x.Kids {
		l = append(l, calls(k, append(slices.Clip(at), i))...)
	}
	return l
}

// TestFuns: reports of functions with the parameters c and p.
func TestFuns(t *testing.T) {
	for s, want := range map[string]string{
		// the examples
		"(seq (var x) (if c (assign x 1) _) x)":                            "Unset[2] ends",
		"(seq (var x) (if c (seq (assign x 1) 2) _) x)":                    "Unset[2] ends",
		"(seq (var x) (if c (seq (assign x 1) 2) (seq (assign x 2) 2)) x)": "ends",
		"(seq (let x 1) (seq (assign x 2) 3))":                             "Set[1 0] ends",
		"(seq (var x 1) (while c (consume x) _))":                          "Unset[1 1] ends",
		"(seq (return 1) 2)":                                               "Dead[1] ends",
		// variables
		"c": "ends", "z": "Unset[] ends", "(consume c)": "ends", "(seq (consume c) c)": "Unset[1] ends", "(seq (consume c) (consume c))": "Unset[1] ends",
		"(assign z 1)": "Unset[] ends", "(seq (assign z 1) z)": "ends", "(assign c 1)": "Set[] ends", "(seq (consume c) (assign c 1) 2)": "Set[1] ends",
		"(seq (var x) x)": "Unset[1] ends", "(seq (let x) (assign x 1) x)": "ends", "(seq (let x) (assign x 1) (assign x 2) x)": "Set[2] ends",
		"(seq (var x 1) (assign x 2))": "ends", "(seq (var x) (assign x 2))": "Unset[1] ends", "(seq (var x x) x)": "Unset[0 0] ends", "(seq (assign x x) x)": "Unset[0 0] ends",
		"(assign x (assign x x))": "Unset[0] Unset[0 0] ends", "(seq (assign x 1) (let x) (assign x 1) x)": "ends", "(seq (var c) c)": "Unset[1] ends",
		"(seq (var c) (assign c 1) c)": "ends", "(call m c (consume c) c)": "Unset[2] ends", "(new m (consume c) c)": "Unset[1] ends", "(tuple (consume c) c)": "Unset[1] ends",
		"(is (consume c) c)": "Unset[1] ends", "(recover (assign x 1))": "Unset[0] ends", "(item 1 (consume c))": "ends", "(unit)": "ends", "(seq)": "ends", "(tuple)": "ends",
		// fields, of the receiver and of others
		"(get f this)": "ends", "(get z this)": "ends", "(set f this 1)": "Set[] ends", "(set g this 1)": "ends", "(set z this 1)": "ends", "(set f c 1)": "ends", "(set f this z)": "Set[] Unset[1] ends",
		// branches
		"(if c (consume p) (consume p))": "ends", "(seq (if c (consume p) 1) p)": "Unset[1] ends", "(seq (if c (seq (consume p) (return 1)) 1) p)": "ends", "(if (consume c) c c)": "Unset[1] Unset[2] ends",
		"(if (return 1) z z)": "ends", "(seq (if c (return 1) (return 2)) 3)": "Dead[1] ends", "(seq (let x) (if c (seq (assign x 1) 1) _) (assign x 2) x)": "Set[2] ends",
		// loops
		"(while c 1 2)": "ends", "(while c (break) 2)": "ends", "(break)": "Loop[]", "(continue)": "Loop[]", "(while c 1 (break))": "Loop[2] ends", "(while 1 (while c 1 (break)) 2)": "ends",
		"(seq (break) 1)": "Loop[0] Dead[1]", "(while (break) z z)": "ends", "(while (continue) z z)": "", "(while c (seq (continue) 1) 2)": "Dead[1 1] ends", "(while c (seq (break) 1) 2)": "Dead[1 1] ends",
		"(seq (var x) (while c (assign x 1) (assign x 2)) x)":                                "Unset[2] ends",
		"(seq (var x) (while (seq (assign x 1) c) 1 2) x)":                                   "ends",
		"(seq (var x) (while c (seq (assign x 1) (break)) (seq (assign x 2) 1)) x)":          "ends",
		"(seq (var x) (while c (seq (assign x 1) (return 1)) (seq (assign x 2) 1)) x)":       "ends",
		"(seq (var x) (while c (seq (assign x 1) (continue)) (seq (assign x 2) 1)) x)":       "Unset[2] ends",
		"(seq (var x) (while c (if c (continue) (break)) (seq (assign x 2) 1)) x)":           "Unset[2] ends",
		"(seq (var x) (while (if c (continue) c) (break) (seq (assign x 2) 1)) x)":           "Unset[2] ends",
		"(seq (var x) (while (if c (continue) c) (return 1) (seq (assign x 2) 1)) x)":        "ends",
		"(seq (while c (return 1) (return 2)) 3)":                                            "Dead[1] ends",
		"(seq (while c (break) (return 2)) 3)":                                               "ends",
		"(seq (while (continue) 1 2) 3)":                                                     "Dead[1]",
		"(seq (let x) (while c (seq (assign x 1) 2) _) x)":                                   "Set[1 1 0] Unset[2] ends",
		"(while c (seq (let x) (assign x 1) x) _)":                                           "ends",
		"(while c (seq (let x 1) x) _)":                                                      "ends",
		"(seq (var x 1) (while c (seq x (consume x) (assign x 1) 1) _) x)":                   "ends",
		"(seq (var x 1) (while c (seq (consume x) (if c (continue) 1) (assign x 1) 1) _) x)": "Unset[1 1 0] Unset[2] ends",
		"(seq (var x 1) (while c (seq (consume x) (if c (break) 1) (assign x 1) 1) _) x)":    "Unset[2] ends",
		"(seq (var x 1) (while x (while c (consume x) _) _))":                                "Unset[1 0] Unset[1 1 1] ends",
		"(seq (var x 1) (while c (seq (consume x) (continue)) x) 1)":                         "Unset[1 1 0] Unset[1 2] ends",
		// matches
		"(match c)": "ends", "(match c (case y _ y))": "ends", "(match c (case - _ 1) (case y (call m y) y))": "ends", "(seq (match c (case y _ 1)) y)": "Unset[1] ends",
		"(match c (case y 1 1) (case - _ y))": "Unset[2 1] ends", "(match c (case y _ (assign y 2)))": "Set[1 1] ends", "(match (return 1) (case y _ z))": "ends",
		"(match c (case - (consume p) 1) (case - _ p))": "Unset[2 1] ends", "(seq (match c (case - (consume p) 1)) p)": "Unset[1] ends", "(seq (match c (case - _ (return 1))) 2)": "ends",
		"(seq (match c (case p _ 1)) p)": "Unset[1] ends", "(seq (match c (case p _ (return 1))) p)": "Unset[1] ends", "(seq (match c (case y _ 1)) (assign y 2) 3)": "Set[1] ends",
		"(match c (case y (return 1) z) (case - _ 2))": "ends", "(seq (var x) (match c (case - _ (seq (assign x 1) 1)) (case - _ (seq (assign x 1) 1))) x)": "Unset[2] ends",
		"(match c (case y _ (consume y)) (case y _ y))": "ends", "(match (consume c) (case - _ c))": "Unset[1 1] ends",
		// errors
		"(error)": "Partial[] errors", "(try (error) _ _)": "ends", "(try (error) (error) _)": "Partial[1] errors", "(try 1 (error) _)": "ends", "(try (error) z _)": "Unset[1] ends", "(try 1 z _)": "ends",
		"(call e c)": "Partial[] errors ends", "(new e c)": "Partial[] errors ends", "(call e (return 1))": "ends", "(try (call e c) z _)": "Unset[1] ends", "(try (seq (call e c) (consume p) 1) p _)": "ends",
		"(try (seq (consume p) (call e c)) p _)": "Unset[1] ends", "(seq (try (seq (call e c) (consume p) 1) _ _) p)": "Unset[1] ends", "(try (try (error) (error) 1) 2 z)": "Unset[2] ends",
		"(try (try 1 2 (error)) 2 _)": "ends", "(try 1 _ (error))": "Partial[2] errors", "(try (try (error) _ (error)) z _)": "Unset[1] ends", "(seq (error) 1)": "Partial[0] Dead[1] errors", "(call e (error))": "Partial[0] errors",
		// what is run behind
		"(seq (try (return 1) _ (seq (assign x 1) 1)) x)": "Dead[1] ends", "(try (return 1) _ z)": "Unset[2] ends", "(try (return 1) _ (return 2))": "ends", "(try (return 1) _ (error))": "Partial[2] errors",
		"(try (error) (return 1) (return 2))": "ends", "(try (call e c) (error) (return 2))": "Partial[1] ends", "(while c (try (break) _ (continue)) _)": "ends",
		"(seq (var x) (while c (try (seq (assign x 1) (break)) _ (consume x)) (seq (assign x 1) 1)) x)": "Unset[2] ends",
		"(seq (var x 1) (while c (try (continue) _ (consume x)) _) x)":                                  "Unset[1 1 2] Unset[2] ends",
		"(seq (var x 1) (try (if c (seq (consume x) (return 1)) 1) _ 1) x)":                             "ends",
		"(seq (var x 1) (try (if c (seq (consume x) (return 1)) 1) _ x) x)":                             "Unset[1 2] ends",
		"(seq (var x 1) (try (if c (seq (consume x) (return 1)) 1) _ (seq (assign x 1) 1)) x)":          "ends",
		"(seq (var x) (try (call e c) 1 (seq (assign x 1) 1)) x)":                                       "ends",
		"(try 1 2 (seq (assign c 1) 3))":                                                                "Set[2 0] ends",
		"(try 1 2 (assign z 3))":                                                                        "ends",
	} {
		b := body(t, s)
		r, e := Check(entity(api.Fun, false, b, "c", "p"), 1, calls(b, nil))
		if got := show(r); e != api.OK || got != want {
			t.Errorf("%s: %s, error %d, want %s", s, got, e, want)
		}
	}
}

// TestPartial: methods that are marked.
func TestPartial(t *testing.T) {
	for s, want := range map[string]string{
		"(error)": "errors", "1": "Partial[] ends", "(call e c)": "errors ends", "(try (error) _ _)": "Partial[] ends", "(try (error) (error) _)": "errors", "(try (error) (error) (return 1))": "Partial[] ends",
		"(seq (return 1) (error))": "Partial[] Dead[1] ends", "(if c (error) (return 1))": "errors ends", "(try (error) _ (error))": "errors", "(call m c)": "Partial[] ends",
	} {
		b := body(t, s)
		r, e := Check(entity(api.Fun, true, b, "c"), 1, calls(b, nil))
		if got := show(r); e != api.OK || got != want {
			t.Errorf("%s: %s, error %d, want %s", s, got, e, want)
		}
	}
}

// TestConstructors: the fields of constructors.
func TestConstructors(t *testing.T) {
	for s, want := range map[string]string{
		"1": "Field[] ends", "(seq (set f this 1) (set g this 2) this)": "ends f g", "(seq (set f this 1) (set g this 2))": "ends f g", "(seq (set f this 1) this)": "Field[] Field[1] ends f",
		"(seq (if c (set f this 1) _) (set g this 2))": "Field[] ends g", "(seq (set g this 1) (set g this 2))": "Field[] ends g", "(seq (set f this 1) (set f this 2) (set g this 1))": "Set[1] ends f g",
		"(call m (set f this 1))": "Field[] Unset[0] ends f", "(seq (get f this) (set f this 1) (get f this) (get z this) (set g this 1))": "Unset[0] ends f g", "(set z this 1)": "Field[] ends",
		"(seq (call m this) (set f this 1) (set g this 1))": "Field[0 0] ends f g", "(return 1)": "Field[] ends", "(seq (set f this 1) (set g this 1) (return this))": "ends f g",
		"(seq (set f this 1) (if c (return 1) (set g this 1)))": "Field[1 1] ends f", "(error)": "Partial[] errors", "(seq (set f this 1) (set g this (get g this)))": "Unset[1 1] ends f g",
		"(while c (set f this 1) _)": "Field[] Set[1] ends", "(try (seq (set f this 1) (call e c) (set g this 1)) _ _)": "Field[] ends f",
		"(try (return 1) _ (seq (set f this 1) (set g this 2)))": "Field[0] ends f g", "(seq (set f c 1) (get f c))": "Field[] ends", "(while 1 (break) (return 2))": "Field[] Field[2] ends",
		"(seq (return this) 1)": "Field[0] Field[0 0] Dead[1] ends", "(seq (set f this 1) (set g this 2) (call m this) (set g this 3))": "ends f g",
	} {
		b := body(t, s)
		r, e := Check(entity(api.New, false, b, "c"), 1, calls(b, nil))
		if got := show(r); e != api.OK || got != want {
			t.Errorf("%s: %s, error %d, want %s", s, got, e, want)
		}
	}
}

// TestUnused: the bodies of behaviours and constructors, and what they return, are not used.
func TestUnused(t *testing.T) {
	for s, want := range map[string]string{
		"(assign z 1)": "ends", "(seq 1 (assign z 1))": "ends", "(if c (assign y 1) (assign z 1))": "ends", "(while c (assign y 1) (assign z 1))": "ends", "(match c (case - _ (assign z 1)))": "ends",
		"(try (assign y 1) (assign z 1) _)": "ends", "(recover (assign z 1))": "ends", "(return (assign z 1))": "ends", "(call m (assign z 1))": "Unset[0] ends", "(if (assign z 1) 1 2)": "Unset[0] ends",
		"(match (assign z 1))": "Unset[0] ends", "(match c (case - (assign z 1) 1))": "Unset[1 0] ends", "(tuple (assign z 1))": "Unset[0] ends", "(assign y (assign z 1))": "Unset[0] ends", "(var y (assign z 1))": "Unset[0] ends",
	} {
		b := body(t, s)
		r, e := Check(entity(api.Be, false, b, "c"), 1, nil)
		if got := show(r); e != api.OK || got != want {
			t.Errorf("%s: %s, error %d, want %s", s, got, e, want)
		}
	}
	for s, want := range map[string]string{"(return (assign z 1))": "Unset[0] ends", "(try 1 1 (return (assign z 1)))": "Unset[2 0] ends", "(seq (return (assign z 1)) 1)": "Unset[0 0] Dead[1] ends"} {
		r, e := Check(entity(api.Fun, false, body(t, s)), 1, nil)
		if got := show(r); e != api.OK || got != want {
			t.Errorf("%s in a Fun: %s, error %d, want %s", s, got, e, want)
		}
	}
}

// wrong are expressions with an error.
func wrong(t *testing.T) map[string]struct {
	x    api.Expr
	want api.Errno
} {
	type w = struct {
		x    api.Expr
		want api.Errno
	}
	tall := api.Expr{Op: api.OpThis}
	for range 100 {
		tall = api.Expr{Op: api.OpRecover, Kids: []api.Expr{tall}}
	}
	all := map[string]w{"101 levels": {tall, api.ErrSize}, "4001 nodes": {api.Expr{Op: api.OpSeq, Kids: make([]api.Expr, 4000)}, api.ErrSize}}
	for _, x := range []api.Expr{{Op: 27}, {Op: -1}, {Text: "x"}, {Types: []api.Type{{}}}, {Kids: []api.Expr{{Op: 1}}}, {Op: api.OpVar, Kids: make([]api.Expr, 2)}, {Op: api.OpVar, Kids: make([]api.Expr, 1)}} {
		all["op "+strconv.Itoa(x.Op)+x.Text+strconv.Itoa(len(x.Types)*10+len(x.Kids))] = w{x, api.ErrForm}
	}
	for _, s := range []string{
		"(lit 1)", "(local x 1)", "(this 1)", "(get f)", "(get f 1 2)", "(set f 1)", "(set f 1 2 3)", "(var x 1 2)", "(var x _)", "(let x 1 2)", "(assign x)", "(assign x _)", "(assign x 1 2)", "(consume x 1)",
		"(seq _)", "(seq 1 _)", "(if 1 2)", "(if 1 2 3 4)", "(if _ 1 2)", "(if 1 _ 2)", "(while 1 2)", "(while _ 1 2)", "(while 1 _ 2)", "(match)", "(match _)", "(match 1 2)", "(match 1 _)", "(match (case - _ 1))",
		"(case - _ 1)", "(seq (case - _ 1))", "(match 1 (case - _))", "(match 1 (case - _ _))", "(match 1 (case - 1 1 1))", "(match 1 (case - _ (case - _ 1)))", "(match 1 (case - (case - _ 1) 1))", "(try 1 2)", "(try _ 1 2)",
		"(try 1 2 3 4)", "(error 1)", "(return 1 2)", "(return _)", "(break 1)", "(continue 1)", "(call m)", "(call m _)", "(call m 1 _)", "(new m _)", "(recover)", "(recover 1 2)", "(recover _)", "(tuple _)", "(item 1)", "(is 1)", "(is 1 2 3)", "(unit 1)",
	} {
		x := body(t, s)
		if s == "(lit 1)" {
			x.Kids = []api.Expr{{Op: api.OpThis}}
		}
		all[s] = w{x, api.ErrForm}
	}
	return all
}

// TestErrors: the errors of all functions, in their order.
func TestErrors(t *testing.T) {
	for s, w := range wrong(t) {
		r, e := Check(entity(api.Fun, false, w.x), 1, make([][]int, 4001))
		l, f := Locals(w.x)
		m, g := Free(w.x)
		n, h := Valued(w.x, nil, []int{9})
		if e != w.want || f != w.want || g != w.want || h != w.want || !reflect.DeepEqual(r, Report{}) || len(l)+len(m)+len(n) > 0 {
			t.Errorf("%s: errors %d, %d, %d, %d, want %d", s, e, f, g, h, w.want)
		}
	}
	one := entity(api.Fun, false, body(t, "z"))
	for i, x := range []struct {
		method, partial int
		want            api.Errno
	}{{-1, 0, api.ErrNone}, {2, 0, api.ErrNone}, {2, 5000, api.ErrNone}, {0, 5000, api.OK}, {1, 4000, api.OK}, {1, 4001, api.ErrSize}} {
		r, e := Check(one, x.method, make([][]int, x.partial))
		if e != x.want || (x.method != 1 || e != api.OK) && !reflect.DeepEqual(r, Report{}) {
			t.Errorf("%d: %v, error %d, want %d", i, r, e, x.want)
		}
	}
	for _, x := range []string{"(seq)", "(match 1)", "(tuple)", "(new m)", "(try 1 _ _)", "(if 1 2 _)", "(while 1 2 _)", "(return)", "(var x)", "(match 1 (case - _ 1))"} {
		if _, e := Locals(body(t, x)); e != api.OK {
			t.Errorf("%s: error %d", x, e)
		}
	}
	if _, e := Locals(api.Expr{}); e != api.ErrForm {
		t.Errorf("Locals of none: error %d", e)
	}
	tall := api.Expr{Op: api.OpThis}
	for range 99 {
		tall = api.Expr{Op: api.OpRecover, Kids: []api.Expr{tall}}
	}
	if _, e := Locals(tall); e != api.OK {
		t.Errorf("100 levels: error %d", e)
	}
	if _, e := Locals(api.Expr{Op: api.OpSeq, Kids: slices.Repeat([]api.Expr{tall.Kids[0]}, 40)}); e != api.OK {
		t.Errorf("3961 nodes: error %d", e)
	}
}

// TestAt: parts of any expression.
func TestAt(t *testing.T) {
	x := body(t, "(if c (seq 1 (call m this)) _)")
	for _, p := range []struct {
		path []int
		want string
	}{{nil, "(if c (seq 1 (call m this)) _)"}, {[]int{1, 1, 0}, "this"}, {[]int{2}, "_"}} {
		if got, e := At(x, p.path); e != api.OK || !reflect.DeepEqual(got, body(t, p.want)) {
			t.Errorf("At %v: %v, error %d", p.path, got, e)
		}
	}
	for _, path := range [][]int{{3}, {-1}, {1, 2}, {1, 1, 0, 0}, {2, 0}} {
		if got, e := At(x, path); e != api.ErrNone || !reflect.DeepEqual(got, api.Expr{}) {
			t.Errorf("At %v: %v, error %d", path, got, e)
		}
	}
	odd := api.Expr{Op: 99, Kids: []api.Expr{{Text: "x"}}}
	if got, e := At(odd, []int{0}); e != api.OK || got.Text != "x" {
		t.Errorf("At of an odd expression: %v, error %d", got, e)
	}
}

// TestNames: Locals and Free.
func TestNames(t *testing.T) {
	for s, want := range map[string][2]string{
		"(seq (var b 1) (let a b) (match a (case - _ (var b)) (case q c (consume z))))": {"b a q", "c z"},
		"(seq x (var x) (assign y x) y (assign a 1))":                                   {"x", "a y"},
		"1": {"", ""},
	} {
		l, e := Locals(body(t, s))
		m, f := Free(body(t, s))
		if e != api.OK || f != api.OK || strings.Join(l, " ") != want[0] || strings.Join(m, " ") != want[1] {
			t.Errorf("%s: %v, %v, errors %d, %d", s, l, m, e, f)
		}
	}
}

// TestValued: what has a value ahead of a part.
func TestValued(t *testing.T) {
	for _, x := range []struct {
		s    string
		path []int
		want string
	}{
		{"(seq (var x 1) (if c (consume x) 1) x)", nil, "c d"}, {"(seq (var x 1) (if c (consume x) 1) x)", []int{1}, "c d x"}, {"(seq (var x 1) (if c (consume x) 1) x)", []int{2}, "c d"},
		{"(seq (var x 1) (while c (consume x) _))", []int{1, 0}, "c d"}, {"(seq (var x 1) (while c (seq (consume x) (break)) _))", []int{1, 0}, "c d x"}, {"(while c (var x 1) 1)", []int{2}, "c d"},
		{"(match c (case y d y))", []int{1}, "c d"}, {"(match c (case y d y))", []int{1, 0}, "c d y"}, {"(match c (case y (consume d) y) (case - _ 1))", []int{2}, "c"},
		{"(try (seq (consume c) (error)) (var y 1) 1)", []int{1}, "d"}, {"(try (if c (seq (consume c) (error)) 1) (var y 1) 1)", []int{2}, "d"}, {"(try (return 1) _ 1)", []int{2}, "c d"},
		{"(call e c d)", []int{1}, "c d"}, {"(try (error) 1 _)", []int{1}, "c d"}, {"(set f this (consume c))", []int{0}, "c d"}, {"(seq (set f this 1) this)", []int{1}, "c d"},
		{"(seq (assign z 1) (assign y z))", []int{1, 0}, "c d z"},
	} {
		l, e := Valued(body(t, x.s), []string{"d", "c", "d"}, x.path)
		if got := strings.Join(l, " "); e != api.OK || got != x.want {
			t.Errorf("%s at %v: %s, error %d, want %s", x.s, x.path, got, e, x.want)
		}
	}
	for _, x := range []struct {
		s    string
		path []int
		want api.Errno
	}{
		{"(if c 1 _)", []int{2}, api.ErrNone}, {"(if c 1 _)", []int{3}, api.ErrNone}, {"(match c (case - _ 1))", []int{1, 0}, api.ErrNone}, {"(seq (return 1) 2)", []int{1}, ErrDead},
		{"(try (call e c) 1 _)", []int{1}, ErrDead}, {"(if (error) 1 2)", []int{2}, ErrDead}, {"(seq (return 1) (seq 1 2))", []int{1, 0}, ErrDead}, {"(while (continue) 1 2)", []int{1}, ErrDead},
	} {
		if l, e := Valued(body(t, x.s), nil, x.path); e != x.want || l != nil {
			t.Errorf("%s at %v: %v, error %d, want %d", x.s, x.path, l, e, x.want)
		}
	}
}

// made returns an expression by chance; a case stands only where one may.
func made(m *samples.Maker, depth int) api.Expr {
	x := api.Expr{Op: 1 + m.Below(api.OpLast), Text: m.One("a", "b", "x", "y")}
	counts := map[int]int{api.OpGet: 1, api.OpSet: 2, api.OpVar: m.Below(2), api.OpLet: m.Below(2), api.OpAssign: 1, api.OpSeq: m.Below(5), api.OpIf: 3, api.OpWhile: 3, api.OpMatch: 1,
		api.OpTry: 3, api.OpReturn: m.Below(2), api.OpCall: 1 + m.Below(2), api.OpNew: m.Below(2), api.OpRecover: 1, api.OpTuple: m.Below(3), api.OpItem: 1, api.OpIs: 2}
	switch {
	case depth <= 1 && counts[x.Op] > 0 || x.Op == api.OpCase || x.Op >= api.OpError && x.Op <= api.OpContinue && m.Below(4) > 0:
		return api.Expr{Op: []int{api.OpLit, api.OpLocal, api.OpLocal, api.OpThis, api.OpConsume}[m.Below(5)], Text: x.Text}
	case x.Op == api.OpGet || x.Op == api.OpSet:
		x.Text = m.One("f", "g", "h")
	case x.Op == api.OpCall || x.Op == api.OpNew:
		x.Text = m.One("e", "m")
	}
	for i := range counts[x.Op] {
		kid := made(m, depth-1)
		if (x.Op == api.OpGet || x.Op == api.OpSet) && i == 0 && m.Below(3) > 0 {
			kid = api.Expr{Op: api.OpThis}
		}
		if (x.Op == api.OpIf || x.Op == api.OpWhile) && i == 2 && m.Below(2) == 0 || x.Op == api.OpTry && i > 0 && m.Below(3) == 0 {
			kid = api.Expr{}
		}
		x.Kids = append(x.Kids, kid)
	}
	for range m.Below(3) * map[bool]int{true: 1}[x.Op == api.OpMatch] {
		c := api.Expr{Op: api.OpCase, Text: m.One("", "x", "y"), Kids: []api.Expr{{}, made(m, depth-2)}}
		if m.Below(2) == 0 {
			c.Kids[0] = made(m, depth-2)
		}
		x.Kids = append(x.Kids, c)
	}
	return x
}
