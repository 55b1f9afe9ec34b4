package check_test

import (
	"slices"
	"strings"
	"testing"

	"hackamore/api"
	"hackamore/check"
)

// row is a row of Shape's table: texts that are right, whether a type may stand (1 any, N a name, S the receiver), and Kids:
// e, o (e?), c (a case), + any number of e, m one or more cases, t two to 64 e, r none or e.
type row struct {
	texts, types, kids string
}

func table() map[int]row {
	name := "a,x',Ü b," + strings.Repeat("n", 60)
	return map[int]row{
		api.OpLit:      {"," + name + "," + strings.Repeat("n", 5000), "N", ""},
		api.OpLocal:    {name, "", ""},
		api.OpConsume:  {name, "", ""},
		api.OpThis:     {"", "", ""},
		api.OpError:    {"", "", ""},
		api.OpBreak:    {"", "", ""},
		api.OpContinue: {"", "", ""},
		api.OpGet:      {name, "", "e"},
		api.OpSet:      {name, "", "ee"},
		api.OpVar:      {name, "1", "r"},
		api.OpLet:      {name, "1", "r"},
		api.OpAssign:   {name, "", "e"},
		api.OpSeq:      {"", "", "+"},
		api.OpIf:       {"", "", "eeo"},
		api.OpWhile:    {"", "", "eeo"},
		api.OpMatch:    {"", "", "em"},
		api.OpCase:     {"," + name, "1", "oe"},
		api.OpTry:      {"", "", "eoo"},
		api.OpReturn:   {"", "", "r"},
		api.OpCall:     {name, "", "e+"},
		api.OpNew:      {name, "N", "+"},
		api.OpRecover:  {"", "S", "e"},
		api.OpTuple:    {"", "", "t"},
		api.OpItem:     {"0,1,9,10,63", "", "e"},
		api.OpIs:       {"", "", "ee"},
		api.OpUnit:     {"", "N", ""},
	}
}

// fills returns lists of Kids that are right for a row.
func fills(kids string) [][]api.Expr {
	l := [][]api.Expr{nil}
	each := func(choices ...[]api.Expr) {
		var more [][]api.Expr
		for _, a := range l {
			for _, b := range choices {
				more = append(more, append(slices.Clip(a), b...))
			}
		}
		l = more
	}
	e, n := []api.Expr{one}, []api.Expr{nothing}
	c := []api.Expr{aCase(nothing)}
	for _, k := range kids {
		switch k {
		case 'e':
			each(e)
		case 'o':
			each(e, n, []api.Expr{{Text: "odd", Kids: []api.Expr{{Op: 99}}}})
		case 'r':
			each(nil, e)
		case '+':
			each(nil, e, slices.Repeat(e, 70))
		case 'm':
			each(c, slices.Repeat(c, 70))
		case 't':
			each(slices.Repeat(e, 2), slices.Repeat(e, 64))
		}
	}
	return l
}

func aCase(guard api.Expr) api.Expr { return tx(api.OpCase, "", "U32 val", guard, one) }

func typesOf(kind string) []string {
	switch kind {
	case "1":
		return []string{"U32 val", "(U32 val | None val)", "$A", "this", "(this -> U32 ref)"}
	case "N":
		return []string{"U32 val", "C[D ref] iso^"}
	case "S":
		return []string{"this", "this iso", "this box!"}
	}
	return []string{""}
}

// shaped checks the error of an expression where it stands alone, behind another one, and as a case where it is one.
func shaped(t *testing.T, n api.Expr, right bool) {
	t.Helper()
	whole, path := seq(one, seq(n)), []int{1, 0}
	if n.Op == api.OpCase {
		whole, path = x(api.OpMatch, "", one, n), []int{1}
	}
	got, e := check.Shape(whole)
	switch {
	case right && (e != api.OK || len(got) > 0):
		t.Errorf("op %d %.20q with %d types and %d kids: error %d at %v", n.Op, n.Text, len(n.Types), len(n.Kids), e, got)
	case !right && (e != api.ErrForm || !slices.Equal(got, path)):
		t.Errorf("op %d %.20q with %d types and %d kids: error %d at %v, not at %v", n.Op, n.Text, len(n.Types), len(n.Kids), e, got, path)
	}
	if got, e := check.Shape(n); (e == api.OK) != (right && n.Op != api.OpCase) || len(got) > 0 {
		t.Errorf("op %d alone: error %d at %v", n.Op, e, got)
	}
	kids := make([]api.Type, len(n.Kids))
	if _, e := check.Rule(nil, check.Context{}, n, kids); e != api.ErrRange {
		t.Errorf("op %d: Rule without a program is the error %d", n.Op, e)
	}
	p := []api.Entity{{Kind: api.Class, Name: "m.C", Cap: api.Ref, Methods: []api.Method{{Kind: api.Fun, Name: "f", Cap: api.Box}}}}
	if _, e := check.Rule(p, check.Context{}, n, kids); e != api.ErrForm && !right {
		t.Errorf("op %d %.20q with %d types and %d kids: Rule is the error %d", n.Op, n.Text, len(n.Types), len(n.Kids), e)
	}
	if _, e := check.Rule(p, check.Context{}, n, append(kids, api.Type{})); e != api.ErrSize {
		t.Errorf("op %d: Rule with a type too many is the error %d", n.Op, e)
	}
}

// TestShapeRows: each row of the table, and what is wrong by one thing.
func TestShapeRows(t *testing.T) {
	for op, r := range table() {
		for _, text := range strings.Split(r.texts, ",") {
			for _, typ := range typesOf(r.types) {
				for _, kids := range fills(r.kids) {
					shaped(t, tx(op, text, typ, kids...), true)
				}
			}
		}
		texts := strings.Split(r.texts, ",")
		base := tx(op, texts[len(texts)-1], typesOf(r.types)[0], fills(r.kids)[0]...)
		wrongTexts(t, op, r, base)
		wrongTypes(t, r, base)
		wrongKids(t, r)
	}
}

func wrongTexts(t *testing.T, op int, r row, base api.Expr) {
	t.Helper()
	l := []string{"", "a", strings.Repeat("n", 61), "0", "00", "64", "-1", "+1", "1 ", "01", "999999999999999999999"}
	for _, s := range l {
		isName := s != "" && len(s) <= 60
		right := slices.Contains(strings.Split(r.texts, ","), s) || op != api.OpItem && r.texts != "" && isName || op == api.OpLit
		base.Text = s
		shaped(t, base, right)
	}
}

func wrongTypes(t *testing.T, r row, base api.Expr) {
	t.Helper()
	for _, typ := range []string{"", "U32 val", "this ref", "(U32 val, U32 val)", "$A", "U32 val; U32 val"} {
		right := typ == "" && r.types == "" || typ == "U32 val" && r.types == "N" || typ == "this ref" && r.types == "S" ||
			r.types == "1" && typ != "" && !strings.Contains(typ, ";")
		n := base
		n.Types = tys(typ)
		shaped(t, n, right)
	}
	bad := base
	bad.Types = []api.Type{{Kind: api.TypeName, Name: "U32"}}
	shaped(t, bad, false)
	bad.Types = []api.Type{{}}
	shaped(t, bad, false)
}

// wrongKids: too few, too many, and other ones than there should be.
func wrongKids(t *testing.T, r row) {
	t.Helper()
	op, base := 0, api.Expr{}
	for o, other := range table() {
		if other == r {
			op = o
		}
	}
	texts := strings.Split(r.texts, ",")
	for _, kids := range fills(r.kids) {
		base = tx(op, texts[len(texts)-1], typesOf(r.types)[0], kids...)
		for i := range kids {
			isCase := r.kids == "em" && i > 0
			isOpen := strings.Contains("eeo", r.kids) && i == 2 || r.kids == "oe" && i == 0 || r.kids == "eoo" && i > 0
			for _, k := range []api.Expr{nothing, {Text: "x"}, aCase(yes), one} {
				n := base
				n.Kids = slices.Clone(kids)
				n.Kids[i] = k
				right := k.Op == 0 && isOpen || k.Op == api.OpCase && isCase || k.Op == api.OpLit && !isCase
				shaped(t, n, right)
			}
		}
		if len(kids) > 3 {
			continue
		}
		for n := range 5 {
			all := slices.Repeat([]api.Expr{one}, n)
			if r.kids == "em" && n > 0 {
				all = append([]api.Expr{one}, slices.Repeat([]api.Expr{aCase(nothing)}, n-1)...)
			}
			least, most := map[string][2]int{"": {0, 0}, "e": {1, 1}, "ee": {2, 2}, "r": {0, 1}, "+": {0, 9}, "eeo": {3, 3}, "em": {2, 9}, "oe": {2, 2}, "eoo": {3, 3}, "e+": {1, 9}, "t": {2, 9}}[r.kids], 0
			most = least[1]
			m := base
			m.Kids = all
			shaped(t, m, n >= least[0] && n <= most)
		}
	}
	if r.kids == "t" {
		base.Kids = slices.Repeat([]api.Expr{one}, 65)
		shaped(t, base, false)
	}
}

// TestShapeOthers: operations that there are not, what is none, sizes, and the first one of several.
func TestShapeOthers(t *testing.T) {
	for _, op := range []int{-1, 27, 1 << 40} {
		shaped(t, x(op, ""), false)
	}
	none := api.Expr{Text: "x", Types: make([]api.Type, 3), Kids: slices.Repeat([]api.Expr{{Op: 99}}, 5000)}
	for _, n := range []api.Expr{nothing, none, x(api.OpIf, "", yes, one, none)} {
		if path, e := check.Shape(n); e != api.OK || len(path) > 0 {
			t.Errorf("error %d at %v", e, path)
		}
	}
	if path, e := check.Shape(aCase(nothing)); e != api.ErrForm || len(path) > 0 {
		t.Errorf("a case alone: error %d at %v", e, path)
	}
	aCaseAlone(t)
	if path, e := check.Shape(seq(one, seq(one, local("")), local(""))); e != api.ErrForm || !slices.Equal(path, []int{1, 1}) {
		t.Errorf("the first of two: error %d at %v", e, path)
	}
	if path, e := check.Shape(tx(api.OpLet, "x", "this", seq(local("")))); e != api.ErrForm || !slices.Equal(path, []int{0, 0}) {
		t.Errorf("deep: error %d at %v", e, path)
	}
	if path, e := check.Shape(x(api.OpGet, "", local(""))); e != api.ErrForm || len(path) > 0 {
		t.Errorf("a node ahead of its kids: error %d at %v", e, path)
	}
	for n, want := range map[int]api.Errno{3999: api.OK, 4000: api.ErrSize} {
		if path, e := check.Shape(seq(slices.Repeat([]api.Expr{one}, n)...)); e != want || len(path) > 0 {
			t.Errorf("%d kids: error %d at %v", n, e, path)
		}
	}
	deep := one
	for level := 2; level <= 102; level++ {
		deep = seq(deep)
		want := api.OK
		if level > 100 {
			want = api.ErrSize
		}
		if path, e := check.Shape(deep); e != want || len(path) > 0 {
			t.Errorf("%d levels: error %d at %v", level, e, path)
		}
	}
	if _, e := check.Shape(seq(append(slices.Repeat([]api.Expr{one}, 4000), local(""))...)); e != api.ErrSize {
		t.Errorf("the size ahead of the form: error %d", e)
	}
}

// aCaseAlone: where the whole expression is a case, it is wrong itself, ahead of all that is wrong in it.
func aCaseAlone(t *testing.T) {
	t.Helper()
	bad, deep := local(""), seq(one, local(""))
	for _, n := range []api.Expr{
		aCase(nothing), aCase(bad), aCase(deep), aCase(aCase(yes)), tx(api.OpCase, "y", "U32 iso", nothing, x(api.OpLit, "")),
		tx(api.OpCase, "y", "U32 val", yes, deep), tx(api.OpCase, "y", "U32 val", yes, nothing), x(api.OpCase, "", seq(bad)),
	} {
		if path, e := check.Shape(n); e != api.ErrForm || len(path) > 0 {
			t.Errorf("%v alone: error %d at %v", n, e, path)
		}
		faulty(t, "get", n, api.ErrForm)
	}
	if path, e := check.Shape(aCase(seq(slices.Repeat([]api.Expr{bad}, 4000)...))); e != api.ErrSize || len(path) > 0 {
		t.Errorf("a case that is too large: error %d at %v", e, path)
	}
}
