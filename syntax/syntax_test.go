package syntax_test

import (
	"math/rand"
	"slices"
	"strings"
	"testing"

	"hackamore/api"
	"hackamore/samples"
	. "hackamore/syntax"
)

// right are texts of well-formed trees, of each kind; %T, %E and so on stand for parts.
var right = []string{
	`(Module)`, `(Module (Use "a" (Nothing)) (Use "b/c'" %E) (Entity "C" (Word "class") (Word) (Bounds) (Nothing)))`,
	`(Use "a/b" (Name "x"))`, `(Entity "c" (Word "type") (Word "val") (Bounds (Bound "A" (Nothing))) %T)`,
	`(Entity "C" (Word "interface") (Word "tag") (Bounds) %T (Method "f" (Word "be") (Word) (Bounds) (Params) (Nothing) (Word) (Nothing)) (Field "x" (Word "let") %T (Nothing)))`,
	`(Word)`, `(Word "anything \n")`, `(Nothing)`, `(Bounds)`, `(Bounds (Bound "A" %T) (Bound "B" (Nothing)))`, `(Bound "A" %T)`,
	`(Field "x" (Word "var") %T %E)`, `(Method "f" (Word "new") (Word "iso") (Bounds (Bound "A" (Nothing))) (Params (Param "x" %T %E)) %T (Word "?") %E)`,
	`(Params)`, `(Params (Param "x" %T (Nothing)) (Param "x" %T (Nothing)))`, `(Param "x" %T %E)`,
	`(NamedType "p.A" (Word "#any") (Word "^") %T %T)`, `(NamedType "x" (Word) (Word "!"))`, `(UnionType %T %T)`, `(BothType %T %T %T)`,
	`(TupleType %T %T)`, `(ArrowType (ThisType) %T)`, `(ThisType)`, `(LambdaType (Word "box") (Word "^") (Word "?") (Nothing))`,
	`(LambdaType (Word) (Word) (Word) %T %T %T)`, `(IntLit "0")`, `(IntLit "340282366920938463463374607431768211455")`, `(FloatLit "1.5e-7")`, `(FloatLit "00.5")`,
	`(StringLit)`, `(StringLit "é\x7F\0")`, `(BoolLit "true")`, `(Name "x'")`, `(Name "_")`, `(This)`, `(Seq %E (Break))`, `(Decl "x" (Word "let") %T)`,
	`(Assign (Name "x") %E)`, `(Assign (Tuple (Decl "x" (Word "var") %T) (Tuple (Dot "y" (This)) (Call (Name "f") (Word)))) (Error))`,
	`(Dot "x" %E)`, `(Tilde "x" %E)`, `(Chain "x" %E)`, `(Call %E (Word "?") %E %E (Named "x" %E) (Named "x" %E))`, `(Named "x" %E)`, `(Qualify %E %T %T)`,
	`(Tuple %E (Seq %E %E))`, `(Array %T)`, `(Array %T %E (Seq %E %E))`, `(Unary "not" %E)`, `(Unary "-" %E)`, `(Binary "+?" %E %E)`, `(Binary "isnt" %E %E)`,
	`(As %E %T)`, `(Consume %E)`, `(Recover (Word "val") %E)`, `(If %E %E (Nothing))`, `(If %E %E %E)`, `(Ifdef %E %E (Nothing))`, `(While %E %E %E)`,
	`(Repeat %E %E)`, `(For "x" %T %E %E (Nothing))`, `(With "x" %T %E %E)`, `(Match %E (Nothing) (Case %E (Nothing) %E))`, `(Match %E %E (Case %E %E %E) (Case (Decl "x" (Word "let") %T) (Nothing) %E))`,
	`(Case %E (Nothing) %E)`, `(Try %E (Nothing) (Nothing))`, `(Try %E %E %E)`, `(Error)`, `(Return (Nothing))`, `(Return %E)`, `(Break)`, `(Continue)`,
	`(Object (Word) (Nothing))`, `(Object (Word "iso") %T (Field "x" (Word "let") %T (Nothing)))`, `(Lambda (Word "val") (Params) (Nothing) (Word) %E)`,
	`(Lambda (Word) (Params) %T (Word "?") (Seq %E %E) (Capture "x" %T %E))`, `(Capture "x" %T %E)`,
}

// wrong are texts of trees of the wrong form.
var wrong = []string{
	`(Module "x")`, `(Module (Entity "C" (Word "class") (Word) (Bounds) (Nothing)) (Use "a" (Nothing)))`, `(Module (Nothing))`, `(Module %E)`,
	`(Use (Nothing))`, `(Use "a/" (Nothing))`, `(Use "a.b" (Nothing))`, `(Use "a//b" (Nothing))`, `(Use "let" (Nothing))`, `(Use "a")`, `(Use "a" %T)`,
	`(Entity (Word "class") (Word) (Bounds) (Nothing))`, `(Entity "C" (Word "struct") (Word) (Bounds) (Nothing))`, `(Entity "C" (Word "class") (Word "#any") (Bounds) (Nothing))`,
	`(Entity "C" (Word) (Word) (Bounds) (Nothing))`, `(Entity "C" (Word "type") (Word) (Bounds) (Nothing))`, `(Entity "C" (Word "class") (Word) (Bounds))`,
	`(Entity "C" (Word "type") (Word) (Bounds) %T (Field "x" (Word "let") %T (Nothing)))`, `(Entity "C" (Word "class") (Word) (Bounds) %T %E)`,
	`(Word "x" (Word))`, `(Nothing "x")`, `(Nothing (Nothing))`, `(Bounds (Nothing))`, `(Bounds "x")`, `(Bound "A")`, `(Bound "A" %E)`,
	`(Field "x" (Word) %T (Nothing))`, `(Field "x" (Word "fun") %T (Nothing))`, `(Field "x" (Word "let") (Nothing) (Nothing))`, `(Field "x" (Word "let") %T)`,
	`(Method "f" (Word "fun") (Word) (Bounds) (Params) (Nothing) (Word))`, `(Method "f" (Word "fun") (Word) (Bounds) (Params) (Nothing) (Word "!") (Nothing))`,
	`(Method "f" (Word "def") (Word) (Bounds) (Params) (Nothing) (Word) (Nothing))`, `(Method "f" (Word "fun") (Word) (Params) (Bounds) (Nothing) (Word) (Nothing))`,
	`(Params %E)`, `(Param "x" (Nothing) (Nothing))`, `(Param "x" %T)`, `(NamedType "a.b.c" (Word) (Word))`, `(NamedType "a." (Word) (Word))`, `(NamedType (Word) (Word))`,
	`(NamedType "A" (Word "#all") (Word))`, `(NamedType "A" (Word) (Word "?"))`, `(NamedType "A" (Word) (Word) %E)`, `(NamedType "A" (Word))`, `(NamedType "A" (Word "-") (Word))`,
	`(UnionType %T)`, `(UnionType)`, `(BothType %T)`, `(TupleType %T)`, `(TupleType %T %E)`, `(ArrowType %T)`, `(ArrowType %T %T %T)`, `(ThisType "this")`, `(ThisType %T)`,
	`(LambdaType (Word "#any") (Word) (Word) (Nothing))`, `(LambdaType (Word) (Word) (Word))`, `(LambdaType (Word) (Word) (Word) (Nothing) (Nothing))`,
	`(IntLit)`, `(IntLit "01")`, `(IntLit "-1")`, `(IntLit "0x1")`, `(IntLit "1_0")`, `(IntLit "340282366920938463463374607431768211456")`, `(IntLit "1" %E)`,
	`(FloatLit "1")`, `(FloatLit "1.")`, `(FloatLit "1E5")`, `(FloatLit "1_0.5")`, `(FloatLit "-1.5")`, `(FloatLit " 1.5")`, `(BoolLit "yes")`, `(BoolLit)`, `(Name "let")`, `(Name)`, `(Name "a b")`, `(Name "a.b")`,
	`(This "this")`, `(Seq %E)`, `(Seq)`, `(Seq %E (Seq %E %E))`, `(Seq %E %T)`, `(Decl "x" (Word) %T)`, `(Decl "x" (Word "let"))`, `(Decl "x" (Word "let") %T %E)`,
	`(Assign (This) %E)`, `(Assign (Tuple (Name "x") (IntLit "1")) %E)`, `(Assign (Name "x"))`, `(Assign (Qualify (Name "x") %T) %E)`, `(Assign (Name "x") %T)`,
	`(Dot %E)`, `(Dot "x" %T)`, `(Dot "x")`, `(Tilde %E)`, `(Chain "x" %E %E)`, `(Call %E)`, `(Call %E (Word "!"))`, `(Call %E (Word) (Named "x" %E) %E)`, `(Call %E (Word) %T)`, `(Call (Named "x" %E) (Word))`,
	`(Named %E)`, `(Named "x" (Nothing))`, `(Qualify %E)`, `(Qualify %E %E)`, `(Tuple %E)`, `(Array)`, `(Array %E)`, `(Array %T %T)`, `(Unary "+" %E)`, `(Unary %E)`, `(Unary "not")`, `(Binary "=" %E %E)`, `(Binary %E %E)`,
	`(Binary "+" %E)`, `(Binary "not" %E %E)`, `(As %T %E)`, `(As %E)`, `(Consume)`, `(Consume "x" %E)`, `(Recover (Word "#any") %E)`, `(Recover %E)`, `(If %E %E)`, `(If %E (Nothing) %E)`, `(If (Nothing) %E %E)`, `(Ifdef %E %E)`,
	`(While %E %E)`, `(Repeat %E (Nothing))`, `(For "x" %T %E %E)`, `(For %T %E %E %E)`, `(With "x" %T %E)`, `(Match %E (Nothing))`, `(Match %E %E %E)`, `(Match %E (Case %E (Nothing) %E))`, `(Case %E %E)`, `(Case (Nothing) (Nothing) %E)`,
	`(Try %E %E)`, `(Try (Nothing) %E %E)`, `(Error %E)`, `(Return)`, `(Return %T)`, `(Break "x")`, `(Continue %E)`, `(Object (Word))`, `(Object (Word) (Nothing) %E)`, `(Object (Word "x") (Nothing))`,
	`(Lambda (Word) (Params) (Nothing) (Word))`, `(Lambda (Word) (Params) (Nothing) (Word) (Nothing))`, `(Lambda (Word) (Params) (Nothing) (Word) %E %E)`, `(Capture "x" %T)`, `(Capture "x" %T (Nothing))`,
	`(Call %E (Word "? "))`, `(Decl "x" (Word "var let") %T)`, `(Dot "x" (Case %E (Nothing) %E))`,
	// texts that are not of the form
	``, `(`, `()`, `Word`, `(Word`, `(Word))`, `(word)`, `(Word )`, `( Word)`, `(Word  "a")`, `(Word "")`, `(Word "a" "b")`, `(Word "\x41")`, `(Word "\x1f")`, `(Word "a`, `(Word "\u00e9")`, `(Word "a") `, ` (Word)`,
	"(Word \"\n\")", "(Word \"\xff\")", `(Return(Nothing))`, `(Return (Nothing) )`, `(Xx)`, `(Return "a"(Nothing))`, `(Word "\q")`, `(Word "\'")`, `(Word "\`, `(Word "\x0`, `(Name "x" "y")`, `(Return (Nothing) "x")`,
}

func filled(s string) string {
	s = strings.ReplaceAll(s, "%E", `(Name "y")`)
	return strings.ReplaceAll(s, "%T", `(NamedType "T" (Word) (Word))`)
}

func TestForms(t *testing.T) {
	kinds := map[int]bool{}
	for _, s := range right {
		n, e := Parse(filled(s))
		text, f := Text(n)
		if e != api.OK || f != api.OK || Check(n) != api.OK || text != filled(s) {
			t.Errorf("%s: error %d, %d, text %s", s, e, f, text)
		}
		kinds[n.Kind] = true
	}
	for k := 1; k <= Last; k++ {
		if !kinds[k] {
			t.Errorf("no tree of the kind %d", k)
		}
	}
	for _, s := range wrong {
		if n, e := Parse(filled(s)); e != api.ErrForm || !Equal(n, api.Node{}) {
			t.Errorf("%s: %v, error %d", s, n, e)
		}
	}
}

func TestKinds(t *testing.T) {
	for _, n := range []api.Node{{}, {Kind: -1}, {Kind: Last + 1}, {Kind: StringLit, Text: "\xff"}, {Kind: Word, Text: "\xff"}, {Kind: Seq, Kids: []api.Node{{}, {}}}} {
		if e := Check(n); e != api.ErrForm {
			t.Errorf("%v: error %d", n, e)
		}
		if s, e := Text(n); s != "" || e != api.ErrForm {
			t.Errorf("Text of %v: error %d", n, e)
		}
	}
	for k := -1; k <= Last+1; k++ {
		n := api.Node{Kind: k}
		if IsType(n) != (k >= 12 && k <= 18) || IsMember(n) != (k == 8 || k == 9) || IsExpr(n) != (k >= 19 && k <= 55 && k != 32 && k != 48) {
			t.Errorf("the groups of %d", k)
		}
	}
}

// wide returns a tree with so many nodes, deep one of a depth.
func wide(nodes int) api.Node {
	n := api.Node{Kind: Seq}
	for range nodes - 1 {
		n.Kids = append(n.Kids, api.Node{Kind: This})
	}
	return n
}

func deep(depth int) api.Node {
	n := api.Node{Kind: This}
	for range depth - 1 {
		n = api.Node{Kind: Consume, Kids: []api.Node{n}}
	}
	return n
}

func TestSizes(t *testing.T) {
	for _, x := range []struct {
		n            api.Node
		nodes, depth int
		e            api.Errno
	}{
		{wide(4000), 4000, 2, api.OK}, {wide(4001), 4001, 2, api.ErrSize}, {deep(100), 100, 100, api.OK}, {deep(101), 101, 101, api.ErrSize},
		{api.Node{Kind: This, Kids: []api.Node{}}, 1, 1, api.OK}, {api.Node{Kind: 99, Kids: wide(4001).Kids}, 4001, 2, api.ErrSize},
	} {
		nodes, depth := Size(x.n)
		if nodes != x.nodes || depth != x.depth || Check(x.n) != x.e {
			t.Errorf("%d nodes, depth %d, error %d; want %v", nodes, depth, Check(x.n), x.e)
		}
	}
	if s, e := Text(wide(4001)); s != "" || e != api.ErrSize {
		t.Errorf("Text: error %d", e)
	}
	text := "(Seq" + strings.Repeat(" (This)", 4000) + ")"
	if _, e := Parse(text); e != api.ErrSize {
		t.Errorf("Parse of too many: error %d", e)
	}
	if _, e := Parse(text[:len(text)-1] + " (Seq))"); e != api.ErrForm {
		t.Errorf("Parse of too many of the wrong form: error %d", e)
	}
	if _, e := Parse(strings.Repeat("(Consume ", 100) + "(This)" + strings.Repeat(")", 100)); e != api.ErrSize {
		t.Errorf("Parse of too deep a one: error %d", e)
	}
	if _, e := Parse(strings.Repeat("(Seq ", 20000)); e != api.ErrForm {
		t.Errorf("Parse of the longest one: error %d", e)
	}
	if _, e := Parse(strings.Repeat("(", 100001)); e != api.ErrLarge {
		t.Errorf("Parse of too long a one: error %d", e)
	}
}

func TestRings(t *testing.T) {
	kids := []api.Node{{}}
	kids[0] = api.Node{Kind: Consume, Kids: kids}
	n := api.Node{Kind: This}
	for range 90 {
		n = api.Node{Kind: Tuple, Kids: []api.Node{n, n}}
	}
	for _, n := range []api.Node{kids[0], n} {
		if e := Check(n); e != api.ErrSize {
			t.Errorf("error %d", e)
		}
	}
}

// paths returns all paths of a tree.
func paths(n api.Node, at []int) [][]int {
	l := [][]int{slices.Clone(at)}
	for i, k := range n.Kids {
		l = append(l, paths(k, append(at, i))...)
	}
	return l
}

func TestParts(t *testing.T) {
	r := rand.New(rand.NewSource(1))
	for seed := range uint64(150) {
		n := samples.New(seed).Module(3)
		if Check(n) != api.OK {
			continue
		}
		before, _ := Text(n)
		for _, p := range paths(n, nil) {
			part, e := At(n, p)
			if e != api.OK || Check(part) != api.OK {
				t.Fatalf("At %v: error %d", p, e)
			}
			same, e := Put(n, p, part)
			if e != api.OK || !Equal(same, n) {
				t.Fatalf("Put of At %v: error %d", p, e)
			}
			other, e := Put(n, p, api.Node{Kind: Word, Text: "new"})
			got, f := At(other, p)
			if e != api.OK || f != api.OK || !Equal(got, api.Node{Kind: Word, Text: "new"}) {
				t.Fatalf("At of Put %v: %v, errors %d, %d", p, got, e, f)
			}
			bad := append(slices.Clone(p), []int{-1, len(part.Kids), 1 << 40}[r.Intn(3)])
			if got, e := At(n, bad); e != api.ErrNone || !Equal(got, api.Node{}) {
				t.Fatalf("At %v: error %d", bad, e)
			}
			if got, e := Put(n, bad, part); e != api.ErrNone || !Equal(got, api.Node{}) {
				t.Fatalf("Put %v: error %d", bad, e)
			}
		}
		if after, _ := Text(n); after != before {
			t.Fatal("the tree was changed")
		}
	}
	n, _ := Parse(`(Assign (Name "x") (IntLit "1"))`)
	if p, e := At(n, []int{1}); e != api.OK || p.Kind != IntLit {
		t.Errorf("At 1: %v, error %d", p, e)
	}
}

// TestTexts: P2.2 and P2.4.
func TestTexts(t *testing.T) {
	seen := map[string]api.Node{}
	for seed := range uint64(600) {
		m := samples.New(seed)
		for _, n := range []api.Node{m.Module(3), m.Expr(2), m.Type(2), m.Expr(1)} {
			s, e := Text(n)
			if e != Check(n) {
				t.Fatalf("Text: error %d, Check %d", e, Check(n))
			}
			if e != api.OK {
				continue
			}
			back, e := Parse(s)
			if len(s) <= 100000 && (e != api.OK || !Equal(back, n)) {
				t.Fatalf("%s: error %d", s, e)
			}
			if old, ok := seen[s]; ok != (ok && Equal(old, n) && Equal(n, old)) {
				t.Fatalf("different trees have the text %s", s)
			}
			seen[s] = n
		}
	}
	a := api.Node{Kind: Name, Text: "a"}
	for _, b := range []api.Node{{Kind: This, Text: "a"}, {Kind: Name, Text: "b"}, {Kind: Name, Text: "a", Kids: []api.Node{{}}}, {}} {
		if Equal(a, b) || Equal(b, a) {
			t.Errorf("%v and %v are equal", a, b)
		}
	}
	if !Equal(a, api.Node{Kind: Name, Text: "a", Kids: []api.Node{}}) {
		t.Error("nil and empty Kids")
	}
}

// TestExamples: the section Examples of the chapter.
func TestExamples(t *testing.T) {
	n := api.Node{Kind: Assign, Kids: []api.Node{{Kind: Name, Text: "x"}, {Kind: IntLit, Text: "1"}}}
	if s, e := Text(n); e != api.OK || s != `(Assign (Name "x") (IntLit "1"))` {
		t.Errorf("Text: %s, error %d", s, e)
	}
	if p, e := At(n, []int{1}); e != api.OK || !Equal(p, n.Kids[1]) {
		t.Errorf("At: %v, error %d", p, e)
	}
	if e := Check(api.Node{Kind: Seq, Kids: []api.Node{n}}); e != api.ErrForm {
		t.Errorf("Check of a Seq with one Kid: error %d", e)
	}
}
