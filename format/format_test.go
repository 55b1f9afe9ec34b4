package format_test

import (
	"slices"
	"strings"
	"testing"

	"hackamore/api"
	. "hackamore/format"
	"hackamore/parser"
	"hackamore/samples"
	"hackamore/syntax"
	"hackamore/token"
)

func TestExprs(t *testing.T) {
	for s, want := range map[string]string{
		"(a+b)*c":                              "(a + b) * c",
		"a+(b+c)":                              "a + (b + c)",
		"(a+b)+c":                              "a + b + c",
		"a - -b":                               "a - -b",
		"- - a":                                "--a",
		"-(not a)":                             "-not a",
		"not(a and b)":                         "not (a and b)",
		"(-a).b":                               "(-a).b",
		"(consume a)(b)":                       "(consume a)(b)",
		"consume (a.b)":                        "consume a.b",
		"consume(a + b)":                       "consume (a + b)",
		"(a as B) as C":                        "(a as B) as C",
		"a as B":                               "a as B",
		"(a as B) + c":                         "(a as B) + c",
		"a = (b = c)":                          "a = b = c",
		"f((a = b), (return c))":               "f(a = b, (return c))",
		"f(a,b where x=1,y=2)?":                "f(a, b where x = 1, y = 2)?",
		"f(where x=(a=b))":                     "f(where x = (a = b))",
		"f((a; b))":                            "f((a; b))",
		"(a = b) + c":                          "(a = b) + c",
		"return (a = b)":                       "return (a = b)",
		"a = (return)":                         "a = (return)",
		"(let x: A).b":                         "(let x: A).b",
		"(let x: A)[B]":                        "(let x: A)[B]",
		"(let x: A)(b)~c":                      "let x: A(b)~c",
		"(let x: A).>b()":                      "let x: A.>b()",
		"((a; b), return, (c = d))":            "((a; b), return, c = d)",
		"[as A:]":                              "[as A:]",
		"[as A: b\nreturn c]":                  "[as A: b; return c]",
		"(a; b)":                               "a\nb",
		"x = (a; b)":                           "x = (a; b)",
		"a.b~c.>d[E].f":                        "a.b~c.>d[E].f",
		"1 .f":                                 "1.f",
		"'a'; 0xff; 1E5; \"\"\"a\n\"\"\"":      "97\n255\n1e5\n\"a\\n\"",
		"{(x:A=b)(y:C=d):E?=>f}val":            "{(x: A = b)(y: C = d): E ? => f } val",
		"{()=>{()=>a}}":                        "{() => {() => a } }",
		"{() => return}":                       "{() => return }",
		"{()=>a;b}iso":                         "{() =>\n  a\n  b\n} iso",
		"{()=>if a then b end}":                "{() =>\n  if a then\n    b\n  end\n}",
		"if a then b else c end":               "if a then\n  b\nelse\n  c\nend",
		"if a then b else if c then d end end": "if a then\n  b\nelseif c then\n  d\nend",
		"if a then b else (if c then d end; e) end":          "if a then\n  b\nelse\n  if c then\n    d\n  end\n  e\nend",
		"ifdef a then b else ifdef c then d end end":         "ifdef a then\n  b\nelse\n  ifdef c then\n    d\n  end\nend",
		"while (a;b) do c else d end":                        "while (a; b) do\n  c\nelse\n  d\nend",
		"if a = b then return end":                           "if a = b then\n  return\nend",
		"ifdef (a = b) then c end":                           "ifdef (a = b) then\n  c\nend",
		"repeat a; b until c end":                            "repeat\n  a\n  b\nuntil c\nend",
		"for x:A in b do c else d end":                       "for x: A in b do\n  c\nelse\n  d\nend",
		"with x:A=b do c end":                                "with x: A = b do\n  c\nend",
		"match a | b if c => d | (e = f) => g; h else i end": "match a\n| b if c =>\n  d\n| (e = f) =>\n  g\n  h\nelse\n  i\nend",
		"try a else b then c end":                            "try\n  a\nelse\n  b\nthen\n  c\nend",
		"try a then c end.x":                                 "try\n  a\nthen\n  c\nend.x",
		"recover val a end":                                  "recover val\n  a\nend",
		"object iso is I let x: A = b fun f() => c end":      "object iso is I\n  let x: A = b\n  fun f() =>\n    c\nend",
		"object end":                                         "object\nend",
		"x = if a then b end + c":                            "x = if a then\n  b\nend + c",
		"if if a then b end then c end":                      "if if a then\n  b\nend then\n  c\nend",
		"f(if a then b end, c)":                              "f(if a then\n  b\nend, c)",
		"if a then f(try b end) end":                         "if a then\n  f(try\n    b\n  end)\nend",
		"a; return; (b)":                                     "a\nreturn\nb",
	} {
		n, at, e := parser.Expr(s)
		if e != api.OK {
			t.Errorf("%s: error %d at %d", s, e, at)
			continue
		}
		if got, e := Text(n); e != api.OK || got != want || !Parses(n) {
			t.Errorf("%s:\n%s\nerror %d, want\n%s", s, got, e, want)
		}
	}
}

func TestTypes(t *testing.T) {
	for s, want := range map[string]string{
		"p . A[B,C]val ^":        "p.A[B, C] val^",
		"A !":                    "A!",
		"A | B":                  "(A | B)",
		"((A|B)|(C&D))":          "((A | B) | (C & D))",
		"(A,(B,C),(D|E))":        "(A, (B, C), (D | E))",
		"(A->B)->C":              "(A->B)->C",
		"A->(B->C)":              "A->B->C",
		"this->A #any":           "this->A #any",
		"{((A|B),(D,E)):F?}val^": "{((A | B), (D, E)): F ?} val^",
		"{()}!":                  "{()}!",
		"{()?}":                  "{() ?}",
		"A[(B|C)]":               "A[(B | C)]",
	} {
		n, at, e := parser.Type(s)
		if e != api.OK {
			t.Errorf("%s: error %d at %d", s, e, at)
			continue
		}
		if got, e := Text(n); e != api.OK || got != want {
			t.Errorf("%s: %s, error %d, want %s", s, got, e, want)
		}
	}
}

func TestModule(t *testing.T) {
	text := "use \"a/b\"if(x and y)or z use \"c\"/* gone */class iso C[A:B,D]is(E&F) var x:G let y:H=(1;2) new f() fun val g[I](z:J=2,w:K):L?=>1;2 be h()=>3 type ref T is U primitive P"
	want := "use \"a/b\" if (x and y) or z\nuse \"c\"\nclass iso C[A: B, D] is (E & F)\n  var x: G\n  let y: H = (1; 2)\n  new f()\n  fun val g[I](z: J = 2, w: K): L ? =>\n    1\n    2\n  be h() =>\n    3\ntype ref T is U\nprimitive P\n"
	if got, at, e := Module(text); e != api.OK || at != 0 || got != want {
		t.Errorf("%q, place %d, error %d", got, at, e)
	}
	if got, at, e := Module(""); got != "" || at != 0 || e != api.OK {
		t.Errorf("an empty module: %q, %d, error %d", got, at, e)
	}
	if got, at, e := Module("class C fun"); got != "" || at != 11 || e != api.ErrEnd {
		t.Errorf("an error: %q, %d, error %d", got, at, e)
	}
	deep := "class C\nfun f() => " + strings.Repeat("if a then ", 80) + strings.Repeat("b;", 300) + "c" + strings.Repeat(" end", 80)
	if got, at, e := Module(deep); got != "" || at != 0 || e != api.ErrLarge {
		t.Errorf("too large a text: %d bytes, %d, error %d", len(got), at, e)
	}
}

func TestErrors(t *testing.T) {
	field := api.Node{Kind: syntax.Field, Text: "x"}
	field.Kids = []api.Node{{Kind: syntax.Word, Text: "let"}, {Kind: syntax.NamedType, Text: "A", Kids: []api.Node{{Kind: syntax.Word}, {Kind: syntax.Word}}}, {Kind: syntax.Nothing}}
	m, _, _ := parser.Parse("class C fun f() => object fun g() end")
	inEntity, inObject := m, m
	inEntity, _ = syntax.Put(m, []int{0}, api.Node{Kind: syntax.Entity, Text: "C", Kids: append(slices.Clone(m.Kids[0].Kids), field)})
	object, _ := syntax.At(m, []int{0, 4, 6})
	inObject, _ = syntax.Put(m, []int{0, 4, 6}, api.Node{Kind: syntax.Object, Kids: append(slices.Clone(object.Kids), field)})
	array, _, _ := parser.Expr("f([as A: b])")
	array, _ = syntax.Put(array, []int{2, 1}, api.Node{Kind: syntax.Seq, Kids: []api.Node{{Kind: syntax.This}, {Kind: syntax.This}}})
	big := api.Node{Kind: syntax.StringLit, Text: strings.Repeat("a", api.MaxSource-1)}
	small := api.Node{Kind: syntax.StringLit, Text: strings.Repeat("a", api.MaxSource-2)}
	wide := api.Node{Kind: syntax.Seq}
	for range api.MaxNodes {
		wide.Kids = append(wide.Kids, api.Node{Kind: syntax.This})
	}
	for i, x := range []struct {
		n      api.Node
		e      api.Errno
		parses bool
	}{
		{m, api.OK, true}, {inEntity, api.ErrForm, false}, {inObject, api.ErrForm, false}, {array, api.ErrForm, false},
		{big, api.ErrLarge, true}, {small, api.OK, true}, {wide, api.ErrSize, false}, {api.Node{}, api.ErrForm, false},
		{field, api.ErrArg, false}, {api.Node{Kind: syntax.Word}, api.ErrArg, false}, {api.Node{Kind: syntax.Nothing}, api.ErrArg, false},
		{m.Kids[0], api.ErrArg, false}, {inEntity.Kids[0], api.ErrArg, false}, {api.Node{Kind: syntax.Seq, Kids: []api.Node{{}, {}}}, api.ErrForm, false},
		{api.Node{Kind: syntax.Case, Kids: []api.Node{{Kind: syntax.This}, {Kind: syntax.Nothing}, {Kind: syntax.This}}}, api.ErrArg, false},
	} {
		s, e := Text(x.n)
		if e != x.e || Parses(x.n) != x.parses || e != api.OK && s != "" {
			t.Errorf("tree %d: error %d, want %d, %v", i, e, x.e, Parses(x.n))
		}
	}
}

// bare leaves out brackets, `;` and Line: what two texts of one tree may have differently. An else with an if in it may
// also be an elseif.
func bare(t *testing.T, s string) string {
	l, _, e := token.Scan(s)
	if e != api.OK {
		t.Fatalf("%q: error %d", s, e)
	}
	var out []string
	for _, x := range l {
		if x.Text != "(" && x.Text != ")" && x.Text != ";" {
			out = append(out, x.Text)
		}
	}
	return strings.Join(out, " ")
}

// TestThereAndBack: P4.2 to P4.4.
func TestThereAndBack(t *testing.T) {
	written := 0
	for seed := range uint64(1500) {
		m := samples.New(seed)
		m.Written = seed%4 > 0
		rules := []func(string) (api.Node, int, api.Errno){parser.Parse, parser.Expr, parser.Type}
		for i, n := range []api.Node{m.Module(3), m.Expr(4), m.Type(3)} {
			s, e := Text(n)
			if Parses(n) != (e == api.OK || e == api.ErrLarge) || e == api.ErrForm && m.Written {
				t.Fatalf("Parses: error %d", e)
			}
			if e != api.OK {
				continue
			}
			written++
			back, at, e := rules[i](s)
			if e != api.OK || !syntax.Equal(back, n) {
				a, _ := syntax.Text(n)
				b, _ := syntax.Text(back)
				t.Fatalf("%s\nerror %d at %d\n%s\n%s", s, e, at, a, b)
			}
			for _, line := range strings.Split(s, "\n") {
				indent := len(line) - len(strings.TrimLeft(line, " "))
				if strings.TrimRight(line, " \t\r") != line || indent%2 == 1 {
					t.Fatalf("a line %q", line)
				}
			}
			if i > 0 {
				continue
			}
			tokens, _, _ := token.Scan(s)
			flat, _ := token.Text(tokens)
			once, _, e := Module(s)
			twice, _, f := Module(flat)
			if e != api.OK || f != api.OK || once != s || twice != s || bare(t, s) != bare(t, flat) {
				t.Fatalf("Module of %s: errors %d, %d\n%s", s, e, f, once)
			}
		}
	}
	if written < 2000 {
		t.Errorf("%d texts", written)
	}
}
