package parser_test

import (
	"slices"
	"strings"
	"testing"

	"hackamore/api"
	"hackamore/format"
	. "hackamore/parser"
	"hackamore/samples"
	"hackamore/syntax"
	"hackamore/token"
)

func TestExpr(t *testing.T) {
	for s, want := range map[string]string{
		"x = f(1) - 2":                   `(Assign (Name "x") (Binary "-" (Call (Name "f") (Word) (IntLit "1")) (IntLit "2")))`,
		"x = f(1)\n- 2":                  `(Seq (Assign (Name "x") (Call (Name "f") (Word) (IntLit "1"))) (Unary "-" (IntLit "2")))`,
		"a\n+ b":                         `(Binary "+" (Name "a") (Name "b"))`,
		"a\n(b)":                         `(Seq (Name "a") (Name "b"))`,
		"a\n.b\n.>c()\n~d":               `(Tilde "d" (Call (Chain "c" (Dot "b" (Name "a"))) (Word)))`,
		"a\n[as B: ]":                    `(Seq (Name "a") (Array (NamedType "B" (Word) (Word))))`,
		"a[B](c)?":                       `(Call (Qualify (Name "a") (NamedType "B" (Word) (Word))) (Word "?") (Name "c"))`,
		"((a; b); (c; d))":               `(Seq (Name "a") (Name "b") (Name "c") (Name "d"))`,
		"(((a)))":                        `(Name "a")`,
		"(a, (b; c), (d))":               `(Tuple (Name "a") (Seq (Name "b") (Name "c")) (Name "d"))`,
		"return":                         `(Return (Nothing))`,
		"return\na":                      `(Seq (Return (Nothing)) (Name "a"))`,
		"return -a":                      `(Return (Unary "-" (Name "a")))`,
		"return\n-a":                     `(Seq (Return (Nothing)) (Unary "-" (Name "a")))`,
		"return (a = b)":                 `(Return (Assign (Name "a") (Name "b")))`,
		"return; break; continue; error": `(Seq (Return (Nothing)) (Break) (Continue) (Error))`,
		"a = b = c":                      `(Assign (Name "a") (Assign (Name "b") (Name "c")))`,
		"(a, (let b: B, c.d), f()) = e":  `(Assign (Tuple (Name "a") (Tuple (Decl "b" (Word "let") (NamedType "B" (Word) (Word))) (Dot "d" (Name "c"))) (Call (Name "f") (Word))) (Name "e"))`,
		"not -a == consume b.c":          `(Binary "==" (Unary "not" (Unary "-" (Name "a"))) (Consume (Dot "c" (Name "b"))))`,
		"a as B":                         `(As (Name "a") (NamedType "B" (Word) (Word)))`,
		"a as B\n-c":                     `(Seq (As (Name "a") (NamedType "B" (Word) (Word))) (Unary "-" (Name "c")))`,
		"(a as B) as C":                  `(As (As (Name "a") (NamedType "B" (Word) (Word))) (NamedType "C" (Word) (Word)))`,
		"a - b - c":                      `(Binary "-" (Binary "-" (Name "a") (Name "b")) (Name "c"))`,
		"a and (b or c)":                 `(Binary "and" (Name "a") (Binary "or" (Name "b") (Name "c")))`,
		"a is b is c":                    `(Binary "is" (Binary "is" (Name "a") (Name "b")) (Name "c"))`,
		"f(a = b, c where d = e, g = h)": `(Call (Name "f") (Word) (Assign (Name "a") (Name "b")) (Name "c") (Named "d" (Name "e")) (Named "g" (Name "h")))`,
		"[as A: a; b\nc]":                `(Array (NamedType "A" (Word) (Word)) (Name "a") (Name "b") (Name "c"))`,
		"[as A: (a; b)]":                 `(Array (NamedType "A" (Word) (Word)) (Name "a") (Name "b"))`,
		"let x: A.B.c":                   `(Dot "c" (Decl "x" (Word "let") (NamedType "A.B" (Word) (Word))))`,
		"let x: A\n.b":                   `(Dot "b" (Decl "x" (Word "let") (NamedType "A" (Word) (Word))))`,
		"var x: A[B] val^(c)":            `(Call (Decl "x" (Word "var") (NamedType "A" (Word "val") (Word "^") (NamedType "B" (Word) (Word)))) (Word) (Name "c"))`,
		"if a then b elseif c then d elseif e then f else g end": `(If (Name "a") (Name "b") (If (Name "c") (Name "d") (If (Name "e") (Name "f") (Name "g"))))`,
		"if a then b elseif c then d end":                        `(If (Name "a") (Name "b") (If (Name "c") (Name "d") (Nothing)))`,
		"if a; b then c end":                                     `(If (Seq (Name "a") (Name "b")) (Name "c") (Nothing))`,
		"ifdef a and b then c else d end":                        `(Ifdef (Binary "and" (Name "a") (Name "b")) (Name "c") (Name "d"))`,
		"while a do b else c end":                                `(While (Name "a") (Name "b") (Name "c"))`,
		"repeat a until b end":                                   `(Repeat (Name "a") (Name "b"))`,
		"for x: A in b do c end":                                 `(For "x" (NamedType "A" (Word) (Word)) (Name "b") (Name "c") (Nothing))`,
		"with x: A = b do c end":                                 `(With "x" (NamedType "A" (Word) (Word)) (Name "b") (Name "c"))`,
		"match a | b if c => d | let e: E => f else g end":       `(Match (Name "a") (Name "g") (Case (Name "b") (Name "c") (Name "d")) (Case (Decl "e" (Word "let") (NamedType "E" (Word) (Word))) (Nothing) (Name "f")))`,
		"try a else b then c end":                                `(Try (Name "a") (Name "b") (Name "c"))`,
		"try a then c end":                                       `(Try (Name "a") (Nothing) (Name "c"))`,
		"recover val a end":                                      `(Recover (Word "val") (Name "a"))`,
		"object iso is I let x: A = b fun f() => c end":          `(Object (Word "iso") (NamedType "I" (Word) (Word)) (Field "x" (Word "let") (NamedType "A" (Word) (Word)) (Name "b")) (Method "f" (Word "fun") (Word) (Bounds) (Params) (Nothing) (Word) (Name "c")))`,
		"object end":                                             `(Object (Word) (Nothing))`,
		"{() => a}":                                              `(Lambda (Word) (Params) (Nothing) (Word) (Name "a"))`,
		"{(x: A = b)(c: C = d): E ? => f; g } val":               `(Lambda (Word "val") (Params (Param "x" (NamedType "A" (Word) (Word)) (Name "b"))) (NamedType "E" (Word) (Word)) (Word "?") (Seq (Name "f") (Name "g")) (Capture "c" (NamedType "C" (Word) (Word)) (Name "d")))`,
		"1; 2.5; \"a\"; 'b'; true; this":                         `(Seq (IntLit "1") (FloatLit "2.5") (StringLit "a") (IntLit "98") (BoolLit "true") (This))`,
		"1(2)":                                                   `(Call (IntLit "1") (Word) (IntLit "2"))`,
		"a.>b(1).>c(2)":                                          `(Call (Chain "c" (Call (Chain "b" (Name "a")) (Word) (IntLit "1"))) (Word) (IntLit "2"))`,
	} {
		n, at, e := Expr(s)
		text, _ := syntax.Text(n)
		if e != api.OK || at != 0 || text != want {
			t.Errorf("%s: %s, place %d, error %d", s, text, at, e)
		}
	}
}

func TestType(t *testing.T) {
	for s, want := range map[string]string{
		"A":                  `(NamedType "A" (Word) (Word))`,
		"p.A[B, C]val!":      `(NamedType "p.A" (Word "val") (Word "!") (NamedType "B" (Word) (Word)) (NamedType "C" (Word) (Word)))`,
		"A\n#any\n^":         `(NamedType "A" (Word "#any") (Word "^"))`,
		"A | B | (C & D)":    `(UnionType (NamedType "A" (Word) (Word)) (NamedType "B" (Word) (Word)) (BothType (NamedType "C" (Word) (Word)) (NamedType "D" (Word) (Word))))`,
		"((A | B), C)":       `(TupleType (UnionType (NamedType "A" (Word) (Word)) (NamedType "B" (Word) (Word))) (NamedType "C" (Word) (Word)))`,
		"((A))":              `(NamedType "A" (Word) (Word))`,
		"this->A->B":         `(ArrowType (ThisType) (ArrowType (NamedType "A" (Word) (Word)) (NamedType "B" (Word) (Word))))`,
		"(A->B)->C":          `(ArrowType (ArrowType (NamedType "A" (Word) (Word)) (NamedType "B" (Word) (Word))) (NamedType "C" (Word) (Word)))`,
		"{(A, B): C ?} iso^": `(LambdaType (Word "iso") (Word "^") (Word "?") (NamedType "C" (Word) (Word)) (NamedType "A" (Word) (Word)) (NamedType "B" (Word) (Word)))`,
		"{()}":               `(LambdaType (Word) (Word) (Word) (Nothing))`,
		"A->B | C":           `(UnionType (ArrowType (NamedType "A" (Word) (Word)) (NamedType "B" (Word) (Word))) (NamedType "C" (Word) (Word)))`,
		"{((A | B))}":        `(LambdaType (Word) (Word) (Word) (Nothing) (UnionType (NamedType "A" (Word) (Word)) (NamedType "B" (Word) (Word))))`,
	} {
		n, at, e := Type(s)
		text, _ := syntax.Text(n)
		if e != api.OK || at != 0 || text != want {
			t.Errorf("%s: %s, place %d, error %d", s, text, at, e)
		}
	}
}

func TestModule(t *testing.T) {
	s := "use \"a/b\" if x and y use \"c\"\nclass iso C[A: B, D] is (E & F) var x: G let y: H = 1 new f() fun val g[I](z: J = 2, w: K): L ? => 1; 2 be h()\ntype T is U\nprimitive P"
	want := `(Module (Use "a/b" (Binary "and" (Name "x") (Name "y"))) (Use "c" (Nothing)) (Entity "C" (Word "class") (Word "iso") (Bounds (Bound "A" %B) (Bound "D" (Nothing))) (BothType %E %F) ` +
		`(Field "x" (Word "var") %G (Nothing)) (Field "y" (Word "let") %H (IntLit "1")) (Method "f" (Word "new") (Word) (Bounds) (Params) (Nothing) (Word) (Nothing)) ` +
		`(Method "g" (Word "fun") (Word "val") (Bounds (Bound "I" (Nothing))) (Params (Param "z" %J (IntLit "2")) (Param "w" %K (Nothing))) %L (Word "?") (Seq (IntLit "1") (IntLit "2"))) ` +
		`(Method "h" (Word "be") (Word) (Bounds) (Params) (Nothing) (Word) (Nothing))) (Entity "T" (Word "type") (Word) (Bounds) %U) (Entity "P" (Word "primitive") (Word) (Bounds) (Nothing)))`
	for _, c := range "BEFGHJKLU" {
		want = strings.ReplaceAll(want, "%"+string(c), `(NamedType "`+string(c)+`" (Word) (Word))`)
	}
	n, at, e := Parse(s)
	text, _ := syntax.Text(n)
	if e != api.OK || at != 0 || text != want {
		t.Errorf("%s, place %d, error %d", text, at, e)
	}
	if n, at, e := Parse(" // nothing\n"); e != api.OK || at != 0 || n.Kind != syntax.Module || len(n.Kids) > 0 {
		t.Errorf("an empty module: %v, %d, error %d", n, at, e)
	}
}

// TestErrors: the place of each error is marked by a `§` in the text.
func TestErrors(t *testing.T) {
	long := strings.Repeat("a", api.MaxName+1)
	rules := map[string]func(string) (api.Node, int, api.Errno){"e": Expr, "t": Type, "m": Parse}
	for _, x := range []struct {
		rule, text string
		e          api.Errno
	}{
		{"e", "a + b §* c", ErrMix}, {"e", "a + b §as C", ErrMix}, {"e", "a as C §+ b", ErrMix}, {"e", "a as C §as D", ErrMix}, {"e", "a\nand b\n§or c", ErrMix},
		{"e", "a as C §- b", ErrMix}, {"e", "a is b §isnt c", ErrMix}, {"t", "A | B §& C", ErrMix}, {"t", "(A & B §| C)", ErrMix}, {"t", "(A, B | C §& D)", ErrMix},
		{"e", "§", api.ErrEnd}, {"e", "a +§", api.ErrEnd}, {"e", "a + // x§", api.ErrEnd}, {"e", "(a§", api.ErrEnd}, {"e", "if a then b§", api.ErrEnd}, {"t", "§", api.ErrEnd}, {"t", "A[B§", api.ErrEnd},
		{"m", "class§", api.ErrEnd}, {"m", "class C fun f( §", api.ErrEnd}, {"e", "a;§", api.ErrEnd}, {"e", "[as A: §", api.ErrEnd},
		{"e", "a §b", ErrToken}, {"e", "a; §; b", ErrToken}, {"e", "§)", ErrToken}, {"e", "a§)", ErrToken}, {"e", "(§)", ErrToken}, {"e", "a\n[§B]", ErrToken}, {"e", "f(a\n§(b))", ErrToken},
		{"e", "f()\n§?", ErrToken}, {"e", "f() ? §?", ErrToken}, {"e", "return §+ a", ErrToken}, {"e", "return §return", ErrToken}, {"e", "x = §return", ErrToken}, {"e", "f(§return)", ErrToken},
		{"e", "f(a, §where b = c)", ErrToken}, {"e", "f(where §)", ErrToken}, {"e", "f(where a §, b)", ErrToken}, {"e", "a.§1", ErrToken}, {"e", "a.§if", ErrToken}, {"e", "let x §= 1", ErrToken}, {"e", "let §let: A", ErrToken},
		{"e", "if a §do b end", ErrToken}, {"e", "while a §then b end", ErrToken}, {"e", "match a §end", ErrToken}, {"e", "match a | b §= c => d end", ErrToken}, {"e", "try a then b §else c end", ErrToken},
		{"e", "repeat a §end", ErrToken}, {"e", "for x §in a do b end", ErrToken}, {"e", "with x: A §do b end", ErrToken}, {"e", "ifdef a §; b then c end", ErrToken}, {"e", "object fun f() §x end", ErrToken}, {"e", "object fun f() §let x: A end", ErrToken},
		{"e", "{§a}", ErrToken}, {"e", "{() §a}", ErrToken}, {"e", "{() => §}", ErrToken}, {"e", "recover §#any a end", ErrToken}, {"e", "[§1; 2]", ErrToken}, {"e", "[as A §1]", ErrToken}, {"e", "a §=> b", ErrToken},
		{"e", "not §=", ErrToken}, {"e", "if §end", ErrToken}, {"e", "a\n* §", api.ErrEnd}, {"e", "a §^", ErrToken}, {"e", "f(a §b)", ErrToken}, {"e", "let x: A\n[§B]", ErrToken}, {"e", "(a §:)", ErrToken}, {"e", "x as A\n§.b", ErrToken},
		{"t", "§1", ErrToken}, {"t", "A §B", ErrToken}, {"t", "A§, B", ErrToken}, {"t", "A\n§.B", ErrToken}, {"t", "A\n§[B]", ErrToken}, {"t", "this §val", ErrToken}, {"t", "A^ §val", ErrToken}, {"t", "(§)", ErrToken}, {"t", "{(A)} §#any", ErrToken},
		{"t", "{(A §| B)}", ErrToken}, {"t", "A[(B | C)§; D]", ErrToken}, {"t", "A[B §| C]", ErrToken}, {"t", "A.§.B", ErrToken}, {"t", "A.B§.C", ErrToken},
		{"m", "class C\n  fun f( §=> 1", ErrToken}, {"m", "§x", ErrToken}, {"m", "class C §use \"a\"", ErrToken}, {"m", "use §a", ErrToken}, {"m", "use \"a\" if x §= y", ErrToken}, {"m", "class §1", ErrToken}, {"m", "class C fun f() §var x: A", ErrToken},
		{"m", "type A §class B", ErrToken}, {"m", "class §#any C", ErrToken}, {"m", "class C[§]", ErrToken}, {"m", "class C var x: A = 1 §2", ErrToken}, {"m", "type T is A §fun f()", ErrToken}, {"m", "class C fun f(x§)", ErrToken}, {"m", "class C fun f() => a §=> b", ErrToken},
		{"m", "class C var x: A = b §= c", ErrToken}, {"m", "class C fun f(x: A = b §= c)", ErrToken},
		{"e", "a + b §= c", api.ErrForm}, {"e", "1 §= 2", api.ErrForm}, {"e", "(a, 1) §= b", api.ErrForm}, {"e", "a as B §= c", api.ErrForm}, {"e", "a = b[C] §= d", api.ErrForm}, {"e", "this §= a", api.ErrForm}, {"e", "not a §= b", api.ErrForm},
		{"e", "§" + long, api.ErrForm}, {"e", "a.§" + long, api.ErrForm}, {"e", "let §" + long + ": A", api.ErrForm}, {"t", "§" + long, api.ErrForm}, {"t", "A.§" + long, api.ErrForm}, {"m", "class §" + long, api.ErrForm},
		{"m", "use §\"\"", api.ErrForm}, {"m", "use §\"a/\" if", api.ErrForm}, {"m", "use §\"a b\"", api.ErrForm}, {"m", "use §\"let\"", api.ErrForm}, {"m", "use §\"a." + "b\"", api.ErrForm}, {"m", "use §\"" + long + "\"", api.ErrForm}, {"m", "class C[§" + long + "]", api.ErrForm},
		{"e", "a + §\"b", token.ErrString}, {"e", ") §@", token.ErrChar}, {"t", "A §1x", token.ErrNumber}, {"m", "class §/*", token.ErrComment},
	} {
		text := strings.ReplaceAll(x.text, "§", "")
		want := strings.Index(x.text, "§")
		n, at, e := rules[x.rule](text)
		if e != x.e || at != want || !syntax.Equal(n, api.Node{}) {
			t.Errorf("%q: %v, place %d, error %d; want %d, %d", text, n, at, e, want, x.e)
		}
	}
}

func TestSizes(t *testing.T) {
	for text, want := range map[string]api.Errno{
		strings.Repeat("a;", 3998) + "a":                              api.OK,
		strings.Repeat("a;", 3999) + "a":                              api.ErrSize,
		strings.Repeat("not ", 99) + "a":                              api.OK,
		strings.Repeat("not ", 100) + "a":                             api.ErrSize,
		strings.Repeat("(", 9000) + "a" + strings.Repeat(")", 9000):   api.OK,
		strings.Repeat("a;", 5000) + "a)":                             ErrToken,
		strings.Repeat("a;", 10000):                                   api.ErrEnd,
		strings.Repeat(" ", 20001):                                    api.ErrLarge,
		strings.Repeat("(", 20000):                                    api.ErrEnd,
		strings.Repeat("if ", 6000):                                   api.ErrEnd,
		strings.Repeat("(a;", 5000) + "a" + strings.Repeat(")", 2000): api.ErrEnd,
	} {
		n, at, e := Expr(text)
		if e != want || (e == api.ErrSize || e == api.ErrLarge) && (at != 0 || n.Kind != 0) {
			t.Errorf("%.20s: place %d, error %d, want %d", text, at, e, want)
		}
	}
}

// texts returns canonical texts of random modules.
func texts(count uint64) []string {
	var l []string
	for seed := range count {
		m := samples.New(seed)
		m.Written = true
		if s, e := format.Text(m.Module(3)); e == api.OK {
			l = append(l, s)
		}
	}
	return l
}

// TestPlaces: P3.3, by parts of texts, and by texts in which a token is another one.
func TestPlaces(t *testing.T) {
	others := slices.Concat(token.Symbols(), token.Keywords(), []string{"x", "1", "\"a\"", "1.5"})
	for i, s := range texts(120) {
		tokens, _, _ := token.Scan(s)
		m := samples.New(uint64(i))
		for j := range min(len(tokens), 120) {
			k := m.Below(len(tokens))
			cut := s[:tokens[k].At]
			if _, at, e := Parse(cut); e != api.OK && (e != api.ErrEnd || at != len(cut)) {
				t.Fatalf("%q, a part of a module: place %d, error %d", cut, at, e)
			}
			other := others[m.Below(len(others))]
			changed := cut + " " + other + " " + s[tokens[k].At:]
			if j%2 == 0 && k+1 < len(tokens) {
				changed = cut + " " + other + " " + s[tokens[k+1].At:]
			}
			_, at, e := Parse(changed)
			if e == api.OK || e == api.ErrSize || e == api.ErrForm && changed[at] != '=' {
				continue
			}
			if at < len(cut) {
				t.Fatalf("%q: the place %d is ahead of what is changed, error %d", changed, at, e)
			}
			if _, at, e := Parse(changed[:at]); e != api.OK && (e != api.ErrEnd || at != len(changed[:at])) {
				t.Fatalf("%q, up to the place of an error: place %d, error %d", changed[:at], at, e)
			}
		}
	}
}

// TestLayout: P3.4.
func TestLayout(t *testing.T) {
	for i, s := range texts(100) {
		want, _, _ := Parse(s)
		tokens, _, _ := token.Scan(s)
		m := samples.New(uint64(i))
		for k := len(tokens) - 1; k >= 0; k-- {
			at := tokens[k].At
			s = s[:at] + m.One("", " ", "\t", "/* // */", " /* /* */ */ ") + s[at:]
		}
		n, _, e := Parse(s)
		if e != api.OK || !syntax.Equal(n, want) {
			t.Fatalf("%s: error %d", s, e)
		}
	}
}

// TestTrees: P3.2.
func TestTrees(t *testing.T) {
	for seed := range uint64(300) {
		m := samples.New(seed)
		m.Written = true
		s, e := format.Text(m.Expr(3))
		if e != api.OK {
			continue
		}
		n, _, e := Expr(s)
		if e != api.OK || syntax.Check(n) != api.OK {
			t.Fatalf("%s: error %d", s, e)
		}
		b, _, e := Expr("(" + s + ")")
		if e != api.OK || !syntax.Equal(n, b) {
			t.Fatalf("%s in brackets: error %d", s, e)
		}
		c, _, e := Expr("x\n(" + s + ")\ny")
		d, _, f := Expr("x\n" + s + "\ny")
		if e != api.OK || f != api.OK || !syntax.Equal(c, d) {
			t.Fatalf("%s between others: errors %d, %d", s, e, f)
		}
	}
}
