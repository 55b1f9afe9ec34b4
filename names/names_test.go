package names_test

import (
	"slices"
	"strconv"
	"strings"
	"testing"

	"hackamore/api"
	. "hackamore/names"
	"hackamore/num"
	"hackamore/parser"
	"hackamore/samples"
	"hackamore/sugar"
	"hackamore/syntax"
)

// showType returns a text of a type; type parameters have a $.
func showType(t api.Type) string {
	var args []string
	for _, a := range t.Args {
		args = append(args, showType(a))
	}
	end := ""
	if t.Cap > 0 {
		end = " " + strings.Fields("iso trn ref val box tag #read #send #share #alias #any")[t.Cap-1]
	}
	end += []string{"", "^", "!"}[t.Mark]
	switch t.Kind {
	case api.TypeName:
		if len(args) > 0 {
			return t.Name + "[" + strings.Join(args, ", ") + "]" + end
		}
		return t.Name + end
	case api.TypeParam:
		return "$" + t.Name + end
	case api.TypeUnion:
		return "(" + strings.Join(args, " | ") + ")"
	case api.TypeBoth:
		return "(" + strings.Join(args, " & ") + ")"
	case api.TypeTuple:
		return "(" + strings.Join(args, ", ") + ")"
	case api.TypeArrow:
		return strings.Join(args, "->")
	}
	return "this" + end
}

// showExpr returns a text of an expression: the name of the operation, the text, the types and the kids.
func showExpr(e api.Expr) string {
	if e.Op == 0 {
		return "none"
	}
	parts := []string{strings.Fields("Lit Local This Get Set Var Let Assign Consume Seq If While Match Case Try Error Return Break Continue Call New Recover Tuple Item Is Unit")[e.Op-1]}
	if e.Text != "" {
		parts = append(parts, strconv.Quote(e.Text))
	}
	for _, t := range e.Types {
		parts = append(parts, "<"+showType(t)+">")
	}
	for _, k := range e.Kids {
		parts = append(parts, showExpr(k))
	}
	return "(" + strings.Join(parts, " ") + ")"
}

func showMethod(m api.Method) string {
	s := []string{"new", "fun", "be"}[m.Kind-1] + " " + strings.Fields("iso trn ref val box tag")[m.Cap-1] + " " + m.Name + showBounds(m.Bounds)
	var params []string
	for _, p := range m.Params {
		params = append(params, p.Name+": "+showType(p.Type))
	}
	s += "(" + strings.Join(params, ", ") + "): " + showType(m.Result)
	if m.Partial {
		s += " ?"
	}
	if m.Body.Op != 0 {
		s += " => " + showExpr(m.Body)
	}
	return s
}

func showBounds(l []api.Bound) string {
	var out []string
	for _, b := range l {
		out = append(out, b.Name+": "+showType(b.Type))
	}
	if len(out) == 0 {
		return ""
	}
	return "[" + strings.Join(out, ", ") + "]"
}

func showEntity(e api.Entity) string {
	s := strings.Fields("class actor primitive trait interface")[e.Kind-1] + " " + strings.Fields("iso trn ref val box tag")[e.Cap-1] + " " + e.Name + showBounds(e.Bounds)
	for _, p := range e.Provides {
		s += " is " + showType(p)
	}
	for _, f := range e.Fields {
		s += "\n" + map[bool]string{true: "let", false: "var"}[f.Let] + " " + f.Name + ": " + showType(f.Type)
	}
	for _, m := range e.Methods {
		s += "\n" + showMethod(m)
	}
	return s + "\n"
}

// source returns a plain tree of a text.
func source(t *testing.T, pkg, text string) Source {
	t.Helper()
	n, at, e := parser.Parse(text)
	if e != api.OK {
		t.Fatalf("%s: error %d at %d", text, e, at)
	}
	if !sugar.IsPlain(n) {
		m, path, e := sugar.Module(n, nil)
		if e != api.OK {
			t.Fatalf("%s: error %d at %v", text, e, path)
		}
		n = m
	}
	return Source{pkg, n}
}

const builtins = 25 // entities of the builtin package

// resolved returns a text of the entities behind those of the builtin package.
func resolved(t *testing.T, l ...Source) string {
	t.Helper()
	p, f, e := Resolve(l, []string{"on"})
	if e != api.OK || f.Source != 0 || len(f.Path) > 0 {
		t.Fatalf("error %d at %v", e, f)
	}
	if e := Check(p); e != api.OK {
		t.Fatalf("Check: error %d", e)
	}
	s := ""
	for _, x := range p[builtins:] {
		s += showEntity(x)
	}
	return s
}

func TestBuiltin(t *testing.T) {
	p, _, e := Resolve(nil, nil)
	if e != api.OK || Check(p) != api.OK {
		t.Fatalf("error %d", e)
	}
	var got []string
	for _, x := range p {
		got = append(got, x.Name)
	}
	want := slices.Concat([]string{"Any", "Stringable", "Iterator", "None", "Bool"}, num.Types(), []string{"String", "Array", "Range", "AmbientAuth", "Out", "Env"})
	if !slices.Equal(got, want) || len(p) != builtins {
		t.Errorf("entities %v", got)
	}
	for name, want := range map[string]string{
		"Any":         "interface tag Any\n",
		"Iterator":    "interface ref Iterator[A: Any #any]\nfun ref has_next(): Bool val\nfun ref next(): $A^ ?\n",
		"Stringable":  "interface box Stringable\nfun box string(): String val\n",
		"None":        "primitive val None\nfun box string(): String val\n",
		"Bool":        "primitive val Bool\nfun box eq(that: Bool val): Bool val\nfun box ne(that: Bool val): Bool val\nfun box op_and(that: Bool val): Bool val\nfun box op_or(that: Bool val): Bool val\nfun box op_xor(that: Bool val): Bool val\nfun box op_not(): Bool val\nfun box string(): String val\n",
		"String":      "class val String\nfun box size(): USize val\nfun box apply(i: USize val): U8 val ?\nfun box add(that: String box): String val\nfun box eq(that: String box): Bool val\nfun box ne(that: String box): Bool val\nfun box lt(that: String box): Bool val\nfun box le(that: String box): Bool val\nfun box gt(that: String box): Bool val\nfun box ge(that: String box): Bool val\nfun box substring(from: USize val, to: USize val): String val\nfun box string(): String val\n",
		"Array":       "class ref Array[A: Any #any]\nnew ref create(): Array[$A] ref^\nfun box size(): USize val\nfun box apply(i: USize val): this->$A! ?\nfun ref update(i: USize val, value: $A): $A^ ?\nfun ref push(value: $A): None val\nfun ref pop(): $A^ ?\n",
		"Range":       "class ref Range\nvar _at: USize val\nlet _end: USize val\nnew ref create(from: USize val, to: USize val): Range ref^ => (Seq (Set \"_at\" (This) (Local \"from\")) (Set \"_end\" (This) (Local \"to\")) (This))\nfun ref has_next(): Bool val => (Call \"lt\" (Get \"_at\" (This)) (Get \"_end\" (This)))\nfun ref next(): USize val ? => (If (Call \"lt\" (Get \"_at\" (This)) (Get \"_end\" (This))) (Set \"_at\" (This) (Call \"add\" (Get \"_at\" (This)) (Lit \"1\" <USize val>))) (Error))\n",
		"AmbientAuth": "primitive val AmbientAuth\n",
		"Out":         "actor tag Out\nbe tag print(text: String val): None val\n",
		"Env":         "class val Env\nlet out: Out tag\nlet args: Array[String val] val\nlet root: AmbientAuth val\n",
	} {
		x, ok := Find(p, name)
		if s := showEntity(x); !ok || s != want {
			t.Errorf("%s:\n%s\nwant\n%s", name, s, want)
		}
	}
	for _, name := range num.Types() {
		x, _ := Find(p, name)
		want := "primitive val " + name + "\nnew val create(value: " + name + " val): " + name + " val^\n"
		l, _ := num.Methods(name)
		for _, m := range l {
			params := ""
			if len(m.Params) == 1 {
				params = "that: " + m.Params[0] + " val"
			}
			want += "fun box " + m.Name + "(" + params + "): " + m.Result + " val" + map[bool]string{true: " ?", false: ""}[m.Partial] + "\n"
		}
		if s := showEntity(x); s != want {
			t.Errorf("%s:\n%s\nwant\n%s", name, s, want)
		}
	}
	count := 0
	var texts []Source
	for _, text := range Builtin() {
		n, _, e := parser.Parse(text)
		if e != api.OK || !sugar.IsPlain(n) {
			t.Errorf("%.40s: error %d", text, e)
		}
		count += len(n.Kids)
		texts = append(texts, Source{"z", n})
	}
	if count != len(p) {
		t.Errorf("%d declarations", count)
	}
	// As texts of another package they have the same entities.
	other, _, e := Resolve(texts, nil)
	if e != api.OK || len(other) != 2*builtins {
		t.Fatalf("the texts: error %d", e)
	}
	for i, x := range p {
		if s := strings.ReplaceAll(showEntity(other[builtins+i]), "z.", ""); s != showEntity(x) {
			t.Errorf("%s, by its text:\n%s", x.Name, s)
		}
	}
}

func TestEntities(t *testing.T) {
	for text, want := range map[string]string{
		"class C\n  new create() => this\n  new iso a(): U8\nactor A\n  new create()\n  new ref x()\nprimitive P\n  new create()\ntrait T\n  new create()\ninterface I\n  new box create()":                              "class ref main.C\nnew ref create(): main.C ref^ => (This)\nnew iso a(): U8 val\nactor tag main.A\nnew tag create(): main.A tag^\nnew ref x(): main.A ref^\nprimitive val main.P\nnew val create(): main.P val^\ntrait ref main.T\nnew ref create(): main.T ref^\ninterface ref main.I\nnew box create(): main.I box^\n",
		"class val C[A, B: C[A, B] #send]\n  let x: A\n  var y: B iso^\n  new create[D: A](z: D!, w: this->A)\n  fun f()\n  fun tag g(): C[B, A] ?\n  be ref h(): U8":                                                    "class val main.C[A: Any #any, B: main.C[$A, $B] #send]\nlet x: $A\nvar y: $B iso^\nnew ref create[D: $A](z: $D!, w: this->$A): main.C[$A, $B] ref^\nfun box f(): None val\nfun tag g(): main.C[$B, $A] val ?\nbe tag h(): U8 val\n",
		"class C is (I & J) new create()\nclass D is I new create()\nclass E is (I | J) new create()\nclass F is K new create()\nclass G is ((I & J) & I) new create()\ninterface I\ninterface val J\ntype K is (J & I)": "class ref main.C is main.I ref is main.J val\nnew ref create(): main.C ref^\nclass ref main.D is main.I ref\nnew ref create(): main.D ref^\nclass ref main.E is (main.I ref | main.J val)\nnew ref create(): main.E ref^\nclass ref main.F is main.J val is main.I ref\nnew ref create(): main.F ref^\nclass ref main.G is (main.I ref & main.J val) is main.I ref\nnew ref create(): main.G ref^\ninterface ref main.I\ninterface val main.J\n",
		"interface I\n  fun f(a: X[(U8, U16 | None)], b: Y[X[U8], this->U8], c: Z)\ntype Z is X[Q]\ntype X[A] is (A val^, A, Array[A box])\ntype Y[A, B] is (A iso | this->B tag! | {(B)})\ntype Q is U8":                "",
		"interface I[T]\n  fun f(a: X[T], b: T->U8, c: P[T]->U8, d: (T, (U8 & T), T->T->U8))\ntype X[A] is (A ref, A)\ntype P[A] is A":                                                                                   "interface ref main.I[T: Any #any]\nfun box f(a: ($T ref, $T), b: $T->U8 val, c: $T->U8 val, d: ($T, (U8 val & $T), $T->$T->U8 val)): None val\n",
		"interface I[U8] fun f(x: U8): U16":                                     "interface ref main.I[U8: Any #any]\nfun box f(x: $U8): U16 val\n",
		"class U8 new create()\nclass C new create(x: U8)":                      "class ref main.U8\nnew ref create(): main.U8 ref^\nclass ref main.C\nnew ref create(x: main.U8 ref): main.C ref^\n",
		"type A[X: Nest[X]] is (X, X)\ntype Nest[X] is (X | None)\ninterface I": "interface ref main.I\n",
	} {
		if want == "" {
			continue
		}
		if got := resolved(t, source(t, "main", text)); got != want {
			t.Errorf("%s:\n%s\nwant\n%s", text, got, want)
		}
	}
	text := "interface I\n  fun f(a: X[(U8 | None)], b: Y[X[U8], U16], c: Z)\ntype Z is X[Q]\ntype X[A] is (A val^, A, Array[A box])\ntype Y[A, B] is (A iso | this->B tag!)\ntype Q is U8 ref"
	want := "interface ref main.I\nfun box f(a: ((U8 val^ | None val^), (U8 val | None val), Array[(U8 box | None box)] ref), b: ((U8 iso^, U8 iso, Array[U8 box] iso) | this->U16 tag!), c: (U8 val^, U8 ref, Array[U8 box] ref)): None val\n"
	if got := resolved(t, source(t, "main", text)); got != want {
		t.Errorf("aliases:\n%s\nwant\n%s", got, want)
	}
}

// TestLargeAliases: types that aliases make very large, and that stand nowhere.
func TestLargeAliases(t *testing.T) {
	text := "interface I\ntype A0 is (U8, U8)\ntype B0[X] is (X, X)\n"
	for i := range 60 {
		text += "type A" + strconv.Itoa(i+1) + " is (A" + strconv.Itoa(i) + ", A" + strconv.Itoa(i) + ")\n"
		text += "type B" + strconv.Itoa(i+1) + "[X] is (B" + strconv.Itoa(i) + "[X], B" + strconv.Itoa(i) + "[X iso])\n"
	}
	if got := resolved(t, source(t, "main", text)); got != "interface ref main.I\n" {
		t.Errorf("%s", got)
	}
}

const before = "primitive P\n  fun p(): U8 => 1\nprimitive Q\n  new create(x: U8)\n  fun q()\nprimitive G[X]\n  fun g[Y]()\nclass C[X]\n  let x: U8\n  new create()\n  new other[Y](x: Y)\nclass Main\n  var _2: U8\n  let c: U8\n  new create(a: U8, b: U16, f: F64)\n  fun m[T](a: U8, b: U16): None =>\n    "

func TestBodies(t *testing.T) {
	for text, want := range map[string]string{
		"1":                             `(Lit "1" <USize val>)`,
		"1.50":                          `(Lit "1.50" <F64 val>)`,
		"U8(7)":                         `(Lit "7" <U8 val>)`,
		"U8(255); I8(127)":              `(Seq (Lit "255" <U8 val>) (Lit "127" <I8 val>))`,
		"F32(7); F64(1.5); F32(1.5e99)": `(Seq (Lit "7" <F32 val>) (Lit "1.5" <F64 val>) (Lit "1.5e99" <F32 val>))`,
		"U128.create(340282366920938463463374607431768211455)": `(Lit "340282366920938463463374607431768211455" <U128 val>)`,
		"U8(1)?":                             `(Lit "1" <U8 val>)`,
		"U8(1.5)":                            `(New "create" <U8 val> (Lit "1.5" <F64 val>))`,
		"U8(a)":                              `(New "create" <U8 val> (Local "a"))`,
		"U8(1, 2)":                           "",
		"U8(-1)":                             `(New "create" <U8 val> (Call "neg" (Lit "1" <USize val>)))`,
		"Bool(1)":                            `(Call "create" (Unit <Bool val>) (Lit "1" <USize val>))`,
		"\"a\"; true; this; P":               `(Seq (Lit "a" <String val>) (Lit "true" <Bool val>) (This) (Unit <main.P val>))`,
		"\"\"":                               `(Lit <String val>)`,
		"a; b":                               `(Seq (Local "a") (Local "b"))`,
		"a.c; a._1; a._10; a._0; a._01; a._": `(Seq (Get "c" (Local "a")) (Item "0" (Local "a")) (Item "9" (Local "a")) (Get "_0" (Local "a")) (Get "_01" (Local "a")) (Get "_" (Local "a")))`,
		"a._9223372036854775807; a._9223372036854775808; a._1'": `(Seq (Item "9223372036854775806" (Local "a")) (Get "_9223372036854775808" (Local "a")) (Get "_1'" (Local "a")))`,
		"_2; this._2 = a; c":                                "",
		"a.x = b; a = b; this.c = a":                        `(Seq (Set "x" (Local "a") (Local "b")) (Assign "a" (Local "b")) (Set "c" (This) (Local "a")))`,
		"let x: U8; var y: T = a":                           `(Seq (Let "x" <U8 val>) (Var "y" <$T> (Local "a")))`,
		"let a: U8 = a; a":                                  `(Seq (Let "a.2" <U8 val> (Local "a")) (Local "a.2"))`,
		"let x: U8 = (let x: U16 = a; x); x":                `(Seq (Let "x" <U8 val> (Seq (Let "x.2" <U16 val> (Local "a")) (Local "x.2"))) (Local "x"))`,
		"a is b; a isnt b":                                  `(Seq (Is (Local "a") (Local "b")) (If (Is (Local "a") (Local "b")) (Lit "false" <Bool val>) (Lit "true" <Bool val>)))`,
		"a.m(b)?; a.m[T, U8](b)":                            `(Seq (Call "m" (Local "a") (Local "b")) (Call "m" <$T> <U8 val> (Local "a") (Local "b")))`,
		"P.p(); Q.q(); Q(a); Q.create(a)":                   `(Seq (Call "p" (Unit <main.P val>)) (Call "q" (Unit <main.Q val>)) (New "create" <main.Q val> (Local "a")) (New "create" <main.Q val> (Local "a")))`,
		"G[U8].g[U16]()":                                    `(Call "g" <U16 val> (Unit <main.G[U8 val] val>))`,
		"P.nothing(a)":                                      `(Call "nothing" (Unit <main.P val>) (Local "a"))`,
		"C[T](); C[U8].other[T](a)":                         `(Seq (New "create" <main.C[$T] ref>) (New "other" <main.C[U8 val] ref> <$T> (Local "a")))`,
		"Array[U8]; 1":                                      "",
		"Array[U8].create().push(a)":                        `(Call "push" (New "create" <Array[U8 val] ref>) (Local "a"))`,
		"if a then b end":                                   `(If (Local "a") (Local "b") (Unit <None val>))`,
		"if let x: U8 = a then x else let x: U8; x end":     `(If (Let "x" <U8 val> (Local "a")) (Local "x") (Seq (Let "x.2" <U8 val>) (Local "x.2")))`,
		"while a do let x: U8 else let x: U8 end":           `(While (Local "a") (Let "x" <U8 val>) (Let "x.2" <U8 val>))`,
		"while a do break; continue end":                    `(While (Local "a") (Seq (Break) (Continue)) (Unit <None val>))`,
		"match a | let x: U8 if x => x | let x: T => x end": `(Match (Local "a") (Case "x" <U8 val> (Local "x") (Local "x")) (Case "x.2" <$T> none (Local "x.2")))`,
		"match a | let _: U8 => 1 | let x: U8 => 2 else let _: U8; let x: U8 end": `(Match (Local "a") (Case "_.3" <U8 val> none (Lit "1" <USize val>)) (Case "x.2" <U8 val> none (Lit "2" <USize val>)) (Case "_" <Any tag> none (Seq (Let "_.2" <U8 val>) (Let "x" <U8 val>))))`,
		"match a | P => 1 | C[U8] => 2 end":                                       `(Match (Local "a") (Case "_1" <main.P val> none (Lit "1" <USize val>)) (Case "_3" <main.C[U8 val] ref> none (Lit "2" <USize val>)))`,
		"try a else b end":                                                        `(Try (Local "a") (Local "b") (Unit <None val>))`,
		"try let x: U8 else let x: U8 then error end":                             `(Try (Let "x" <U8 val>) (Let "x.2" <U8 val>) (Error))`,
		"return; return a":                                                        `(Seq (Return (Unit <None val>)) (Return (Local "a")))`,
		"recover a end; recover val (let x: U8; x) end":                           `(Seq (Recover <this iso> (Local "a")) (Recover <this val> (Seq (Let "x" <U8 val>) (Local "x"))))`,
		"(a, b, this)":                                                            `(Tuple (Local "a") (Local "b") (This))`,
		"consume a":                                                               `(Consume "a")`,
		"f(a)":                                                                    `(Call "apply" (Local "f") (Local "a"))`,
	} {
		if want == "" {
			continue
		}
		s := strings.Replace(before, "a: U8, b: U16): None", "a: U8, b: U16, f: F64): None", 1) + text
		p, f, e := Resolve([]Source{source(t, "main", s)}, nil)
		if e != api.OK {
			t.Errorf("%s: error %d at %v", text, e, f)
			continue
		}
		m, _ := Find(p, "main.Main")
		if got := showExpr(m.Methods[1].Body); got != want {
			t.Errorf("%s:\n%s\nwant\n%s", text, got, want)
		}
	}
}

// TestErrors: the code, and the node that a path leads to.
func TestErrors(t *testing.T) {
	long := "1." + strings.Repeat("0", 399)
	for _, x := range []struct {
		text, at string
		e        api.Errno
	}{
		{"x", "x", api.ErrScope}, {"X", "X", api.ErrScope}, {"a = x", "x", api.ErrScope}, {"x = a", "x", api.ErrScope}, {"consume x", "x", api.ErrScope}, {"if a then let x: U8 end; x", "x", api.ErrScope},
		{"let x: X", "X", api.ErrScope}, {"let x: q.P", "q.P", api.ErrScope}, {"X.x", "X", api.ErrScope}, {"X[U8].x", "X", api.ErrScope}, {"X()", "X", api.ErrScope}, {"X[U8]", "X", api.ErrScope}, {"X.x = a", "X", api.ErrScope},
		{"let x: U8 = x", "x", api.ErrScope}, {"match a | let x: U8 => 1 | let y: U8 => x end", "x", api.ErrScope}, {"match a | let y: U8 => x else X end", "X", api.ErrScope}, {"let x: U8[X]", "U8", ErrArity}, {"let x: X[Y]", "X", api.ErrScope},
		{"C", "C", ErrKind}, {"T", "T", ErrKind}, {"Any", "Any", ErrKind}, {"Alias", "Alias", ErrKind}, {"C.x", "Dot x", ErrKind}, {"P.x", "Dot x", ErrKind}, {"C[X].x", "Dot x", ErrKind}, {"P[U8]", "Qualify ", ErrKind}, {"a[U8]", "Qualify ", ErrKind},
		{"P._1 = x", "Dot _1", ErrKind}, {"a._1 = x", "Dot _1", ErrKind}, {"P.x = X", "Dot x", ErrKind}, {"P = x", "P", ErrKind}, {"T.x", "Dot x", ErrKind}, {"consume P", "Consume ", ErrKind}, {"consume this", "Consume ", ErrKind}, {"consume a.x", "Consume ", ErrKind},
		{"T()", "T", ErrKind}, {"Any()", "Any", ErrKind}, {"Alias()", "Alias", ErrKind}, {"let x: U8 #any", "U8", ErrKind}, {"let x: T #read", "T", ErrKind}, {"let x: this", "ThisType ", ErrKind}, {"let x: U8->T", "U8", ErrKind}, {"let x: (T | U8)->T", "UnionType ", ErrKind},
		{"let x: Alias val", "Alias", ErrKind}, {"let x: Alias^", "Alias", ErrKind}, {"let x: Pair[U8 #any]", "U8", ErrKind}, {"let x: Pair[X] val", "Pair", ErrKind}, {"let x: X #any", "X", api.ErrScope}, {"let x: X->U8", "X", api.ErrScope}, {"let x: Alias->U8", "Alias", ErrKind},
		{"let x: (this->(X | this) & U8)", "X", api.ErrScope}, {"let x: (this->(U8 | this) & U8)", "ThisType ", ErrKind},
		{"let x: C", "C", ErrArity}, {"let x: C[U8, X]", "C", ErrArity}, {"let x: T[U8]", "T", ErrArity}, {"let x: Pair", "Pair", ErrArity}, {"C.create()", "C", ErrArity}, {"C[U8, X].create()", "C", ErrArity}, {"G.g()", "G", ErrArity}, {"G", "G", ErrArity}, {"G[U8, X].g()", "G", ErrArity}, {"P[X].p()", "P", ErrArity},
		{"C.nothing()", "C", api.ErrNone}, {"C[U8, X].nothing[X](X)", "C", api.ErrNone}, {"String.size()", "String", api.ErrNone}, {"Main.m()", "Main", api.ErrNone}, {"C[X].other[Y](Z)", "X", api.ErrScope}, {"C[U8].other[Y](Z)", "Y", api.ErrScope}, {"C[U8].other[U8](Z)", "Z", api.ErrScope},
		{"G[U8].g[Y](Z)", "Y", api.ErrScope}, {"x.m[Y](Z)", "x", api.ErrScope}, {"a.m[Y](Z)", "Y", api.ErrScope}, {"a.m[U8](Z)", "Z", api.ErrScope},
		{"U8(256)", "256", ErrLiteral}, {"I8(128)", "128", ErrLiteral}, {"18446744073709551616", "18446744073709551616", ErrLiteral}, {"U8(a, 18446744073709551616)", "18446744073709551616", ErrLiteral}, {long, long, ErrLiteral}, {"F32(" + long + ")", long, ErrLiteral},
	} {
		s := source(t, "main", before+x.text+"\ntype Alias is (U8 | U16)\ntype Pair[X] is (X, X)")
		if strings.HasPrefix(x.text, "P._1") || strings.HasPrefix(x.text, "P.x = X") {
			s = source(t, "main", before+x.text+"\ntype Alias is (U8 | U16)")
		}
		p, f, e := Resolve([]Source{source(t, "other", "primitive O"), s}, nil)
		part, err := syntax.At(s.Tree, f.Path)
		at := part.Text
		if part.Kind == syntax.Dot || at == "" {
			name, _ := syntax.Text(part)
			at = strings.Fields(strings.Trim(name, "()"))[0] + " " + part.Text
		}
		if e != x.e || err != api.OK || at != x.at || f.Source != 1 || p != nil {
			t.Errorf("%s: error %d at %v %s, want %d at %s", x.text, e, f, at, x.e, x.at)
		}
	}
}

func TestDeclarations(t *testing.T) {
	for _, x := range []struct {
		text string
		e    api.Errno
		path []int
	}{
		{"use \"a\" if x.y class C class C", api.ErrForm, []int{0}}, {"use \"b\" class C class C", ErrUse, []int{0}}, {"use \"b\" if no class C new create() class C", api.ErrTwice, []int{2}}, {"use \"a\" if no and (on xor 1)", api.ErrForm, []int{0}},
		{"use \"b\" if on and not no", ErrUse, []int{0}}, {"use \"b\" if false or (no and true)", api.OK, nil}, {"class C type C is X", api.ErrTwice, []int{1}}, {"trait T fun f() fun g() fun f()", api.ErrTwice, []int{0, 6}}, {"class C let x: X new x()", api.ErrTwice, []int{0, 5}},
		{"class C let x: X let x: X new create()", api.ErrTwice, []int{0, 5}}, {"trait T fun f(x: U8, y: U8, x: U8)", api.ErrTwice, []int{0, 4, 3, 2}}, {"trait T fun f[A, A]()", api.ErrTwice, []int{0, 4, 2, 1}}, {"trait T[A, B, A]", api.ErrTwice, []int{0, 2, 2}}, {"trait T[A] fun f[A](x: U8, x: U8)", api.ErrTwice, []int{0, 4, 2, 0}},
		{"type A is B type B is A", ErrCycle, []int{0}}, {"type C is A type A is (U8 | B) type B is Array[A]", ErrCycle, []int{1}}, {"type A is A", ErrCycle, []int{0}}, {"type A[A] is A", api.OK, nil}, {"type A is B[A] type B[X] is U8", ErrCycle, []int{0}}, {"trait T fun f(x: X) type A is A", ErrCycle, []int{1}},
		{"type A is X", api.ErrScope, []int{0, 3}}, {"trait T fun f(x: A): Y type A is X", api.ErrScope, []int{0, 4, 4}}, {"type A[X] is X->U8", ErrKind, []int{0, 3, 0}}, {"type A[X] is this->X", api.OK, nil}, {"type A[X: X->U8] is X", api.OK, nil}, {"type A[X: Y] is Z", api.ErrScope, []int{0, 2, 0, 0}},
		{"trait T[A: (U8 | A #any)]", ErrKind, []int{0, 2, 0, 0, 1}}, {"trait T[A: U8 #send]", api.OK, nil}, {"trait T[A: Array[U8 #send]]", ErrKind, []int{0, 2, 0, 0, 2}}, {"trait T is X fun f(y: Y)", api.ErrScope, []int{0, 3}}, {"type A[Y] is Y->U8", ErrKind, []int{0, 3, 0}}, {"type A is Y->U8", api.ErrScope, []int{0, 3, 0}},
		{"trait T fun f(x: A->U8) type A is X", ErrKind, []int{0, 4, 3, 0, 0, 0}}, {"trait T fun f[B](x: A[B]->U8) type A[X] is X", api.OK, nil}, {"class Main class U8", api.OK, nil}, {"trait T fun f(x: main.T)", api.ErrScope, []int{0, 4, 3, 0, 0}},
	} {
		tree := parsed(t, x.text)
		p, f, e := Resolve([]Source{{"a", parsed(t, "primitive P")}, {"main", tree}}, []string{"on"})
		want := 1
		if x.e == api.OK {
			want = 0
		}
		if e != x.e || !slices.Equal(f.Path, x.path) || f.Source != want || (p == nil) == (e == api.OK) {
			t.Errorf("%s: error %d at %v, want %d at %v", x.text, e, f, x.e, x.path)
		}
	}
}

// TestLeftSides: the left side of an arrow that is an alias is a type parameter, or wrong where it stands; what else is
// wrong with the alias is told at its declaration.
func TestLeftSides(t *testing.T) {
	left := []int{0, 4, 3, 0, 0, 0}
	for _, x := range []struct {
		left, right, aliases string
		e                    api.Errno
		path                 []int
	}{
		{"A", "U8", "type A is (U8 | X)", ErrKind, left}, {"A", "U8", "type A is U8[U8]", ErrKind, left}, {"A", "U8", "type A is U8", ErrKind, left},
		{"A", "U8", "type A is X", ErrKind, left}, {"A", "U8", "type A is T", ErrKind, left}, {"A", "X", "type A is X", ErrKind, left},
		{"A", "U8", "type A is (X, U8)", ErrKind, left}, {"A", "U8", "type A is this->X", ErrKind, left}, {"A", "U8", "type A is B type B is X", ErrKind, left},
		{"A", "U8", "type A is B val type B is X", ErrKind, left}, {"A[T]", "U8", "type A[X] is Y", ErrKind, left}, {"A[U8]", "U8", "type A[X] is X", ErrKind, left},
		{"A[X]", "U8", "type A[X] is X", ErrKind, left}, {"A[X]", "U8", "type A[X] is U8", ErrKind, left}, {"A[T, U8]", "U8", "type A[X, Y] is Y", ErrKind, left},
		{"A[B]", "U8", "type A[X] is X type B is Y", ErrKind, left}, {"A[T] val", "U8", "type A[X] is X", ErrKind, left},
		{"X", "U8", "type A[X] is X", api.ErrScope, left}, {"A[T, X]", "U8", "type A[X, Y] is X", api.ErrScope, append(left, 3)},
		{"A", "U8", "type A[X] is X", ErrArity, left}, {"A[T, U8]", "U8", "type A[X] is X", ErrArity, left},
		{"A[T[U8]]", "U8", "type A[X] is X", ErrArity, append(left, 2)}, {"A[T #any]", "U8", "type A[X] is X", ErrKind, append(left, 2)},
		{"A[T]", "U8", "type A[X] is X", api.OK, nil}, {"A[A[T]]", "U8", "type A[X] is B[U8, X ref] type B[X, Y] is Y", api.OK, nil}, {"A[T]", "U8", "type A[X: Y] is X", api.ErrScope, []int{1, 2, 0, 0}},
		{"A[T]", "U8", "type A[X] is X[U8]", ErrArity, []int{1, 3}}, {"A[T]", "U8", "type A[X] is X #read", ErrKind, []int{1, 3}},
		{"A[T]", "U8", "type A[X] is B[X] val type B[X] is X", ErrKind, []int{1, 3}}, {"A[T]", "U8", "type A[X] is B[X, Z] type B[X, Y] is X", api.ErrScope, []int{1, 3, 3}},
		{"A[T]", "X", "type A[X] is X[U8]", api.ErrScope, []int{0, 4, 3, 0, 0, 1}},
	} {
		text := "trait I fun f[T](x: " + x.left + "->" + x.right + ") " + x.aliases
		_, f, e := Resolve([]Source{{"main", parsed(t, text)}}, nil)
		if e != x.e || !slices.Equal(f.Path, x.path) {
			t.Errorf("%s: error %d at %v, want %d at %v", text, e, f, x.e, x.path)
		}
	}
	// An alias ahead of the arrow is come to first; one of another source may be there, too.
	for text, path := range map[string][]int{"type A is X trait I fun f(x: A->U8)": {0, 3}, "use \"q\" trait I fun f(x: q.Wrong->U8)": {1, 4, 3, 0, 0, 0}} {
		e := map[bool]api.Errno{true: ErrKind, false: api.ErrScope}[len(path) > 2]
		_, f, got := Resolve([]Source{{"main", parsed(t, text)}, {"q", parsed(t, "type Wrong is X")}}, nil)
		if got != e || f.Source != 0 || !slices.Equal(f.Path, path) {
			t.Errorf("%s: error %d at %v, want %d at %v", text, got, f, e, path)
		}
	}
}

// TestLongAliases: what aliases stand for is found without a step for each way that leads there.
func TestLongAliases(t *testing.T) {
	text := "trait I fun f[T](x: A60[T]->U8, y: A60[U8]->T) type A0[X] is X"
	for i := range 60 {
		inner := "A" + strconv.Itoa(i)
		text += " type A" + strconv.Itoa(i+1) + "[X] is " + inner + "[" + inner + "[X]]"
	}
	if _, f, e := Resolve([]Source{{"main", parsed(t, text)}}, nil); e != ErrKind || !slices.Equal(f.Path, []int{0, 4, 3, 1, 0, 0}) {
		t.Errorf("error %d at %v", e, f)
	}
}

func parsed(t *testing.T, text string) api.Node {
	t.Helper()
	n, at, e := parser.Parse(text)
	if e != api.OK {
		t.Fatalf("%s: error %d at %d", text, e, at)
	}
	return n
}

func TestSources(t *testing.T) {
	ok := Source{"a", parsed(t, "primitive P")}
	for i, x := range []struct {
		l []Source
		f int
		e api.Errno
	}{
		{[]Source{ok, {"b", parsed(t, "class C fun f() => a + b")}}, 1, api.ErrArg}, {[]Source{{"b/", ok.Tree}}, 0, api.ErrArg}, {[]Source{{"/", ok.Tree}}, 0, api.ErrArg}, {[]Source{{"let", ok.Tree}}, 0, api.ErrArg}, {[]Source{ok, {"b", api.Node{}}}, 1, api.ErrArg},
		{[]Source{ok, {"b.c", ok.Tree}}, 1, api.ErrArg}, {[]Source{ok, ok}, 1, api.ErrTwice}, {[]Source{{"", parsed(t, "class U8")}}, 0, api.ErrTwice}, {[]Source{{"", parsed(t, "class U9")}}, 0, api.OK}, {[]Source{ok, {"a/b'", ok.Tree}}, 0, api.OK},
		{[]Source{{"b", parsed(t, "use \"a\"")}, ok}, 0, api.OK}, {[]Source{{"b", parsed(t, "use \"b\"")}}, 0, api.OK}, {[]Source{{"a", parsed(t, "primitive Q")}, ok, {"x", parsed(t, "type X is X")}, {"a", parsed(t, "type P is U8")}}, 3, api.ErrTwice},
	} {
		p, f, e := Resolve(x.l, nil)
		if e != x.e || f.Source != x.f || (p == nil) == (e == api.OK) {
			t.Errorf("%d: error %d at %v, want %d at %d", i, e, f, x.e, x.f)
		}
	}
	got := resolved(t, source(t, "a", "primitive P\nprimitive Q\nprimitive Both"), source(t, "b/c", "primitive P\nprimitive R\nprimitive Both"), source(t, "", "primitive S\nprimitive R"),
		source(t, "main", "use \"b/c\"\nuse \"a\"\nprimitive Both\ninterface I\n  fun f(a: P, b: Q, c: a.P, d: c.P, e: c.R, f: R, g: S, h: Both, i: c.Both)"), source(t, "main", "interface J fun g(x: I, y: Both, z: S)"))
	got = got[strings.Index(got, "interface"):]
	if want := "interface ref main.I\nfun box f(a: b/c.P val, b: a.Q val, c: a.P val, d: b/c.P val, e: b/c.R val, f: b/c.R val, g: S val, h: main.Both val, i: b/c.Both val): None val\ninterface ref main.J\nfun box g(x: main.I ref, y: main.Both val, z: S val): None val\n"; got != want {
		t.Errorf("%s\nwant\n%s", got, want)
	}
}

func TestLimits(t *testing.T) {
	many := func(s string, n int) string {
		out := ""
		for i := range n {
			out += strings.ReplaceAll(s, "#", strconv.Itoa(i))
		}
		return out
	}
	for text, want := range map[string]api.Errno{
		many("primitive P#\n", api.MaxUnits-builtins): api.OK, many("primitive P#\n", api.MaxUnits-builtins+1): api.ErrFull, many("type P# is U8\n", 220): api.OK,
		"trait T " + many("fun f#() ", 64): api.OK, "trait T " + many("fun f#() ", 65): api.ErrFull, "trait T " + many("let f#: U8 ", 65): api.ErrFull, "trait T fun f(" + many("x#: U8, ", 64) + "x: U8)": api.ErrFull,
		"trait T[" + many("X#, ", 64) + "X]": api.ErrFull, "trait T fun f[" + many("X#, ", 64) + "X]()": api.ErrFull, "trait T is (" + many("I & ", 64) + "I) interface I": api.ErrFull, "trait T is (" + many("I & ", 63) + "I) interface I": api.OK,
		"trait T " + many("fun f#() ", 65) + " fun g(x: X)": api.ErrScope,
	} {
		p, f, e := Resolve([]Source{{"main", parsed(t, text)}}, nil)
		if e != want || (p == nil) != (e != api.OK) || e == api.ErrFull && len(f.Path) > 0 {
			t.Errorf("%.60s: error %d, want %d", text, e, want)
		}
	}
}

func TestProgram(t *testing.T) {
	main := "actor Main\n  new create(env: Env) => env.out.print(\"hi\")"
	p, e := Program(map[string]string{"main": main, "b": "primitive P"}, nil)
	if e != api.OK || len(p) != builtins+2 || p[builtins].Name != "b.P" {
		t.Fatalf("error %d", e)
	}
	m, _ := Find(p, "main.Main")
	if got := showEntity(m); got != "actor tag main.Main\nnew tag create(env: Env val): main.Main tag^ => (Call \"print\" (Get \"out\" (Local \"env\")) (Lit \"hi\" <String val>))\n" {
		t.Errorf("%s", got)
	}
	for _, x := range []struct {
		texts map[string]string
		e     api.Errno
	}{
		{nil, ErrMain}, {map[string]string{"main": ""}, ErrMain}, {map[string]string{"main": "actor Main"}, ErrMain}, {map[string]string{"main": "class Main new create(env: Env)"}, ErrMain}, {map[string]string{"other": main}, ErrMain},
		{map[string]string{"main": "actor Main new create(env: Env, x: U8)"}, ErrMain}, {map[string]string{"main": "actor Main new create(env: Env tag)"}, ErrMain}, {map[string]string{"main": "actor Main new make(env: Env)"}, ErrMain}, {map[string]string{"main": "actor Main fun create(env: Env)"}, api.ErrTwice}, {map[string]string{"main": "actor Main let x: U8 fun create(env: Env)"}, ErrMain},
		{map[string]string{"main": "actor Main new create(env: Env!)"}, ErrMain}, {map[string]string{"main": main, "a": "class", "b": "x"}, api.ErrEnd}, {map[string]string{"main": main, "b": "class", "a": "primitive P fun f() => P~f"}, sugar.ErrChain},
		{map[string]string{"main": main, "": "class"}, api.ErrEnd}, {map[string]string{"main": main, "1": ""}, api.ErrArg}, {map[string]string{"main": main + "; x"}, api.ErrScope}, {map[string]string{"main": "use \"a\" if not on\n" + main}, ErrUse},
	} {
		if p, e := Program(x.texts, nil); e != x.e || p != nil {
			t.Errorf("%v: error %d, want %d", x.texts, e, x.e)
		}
	}
	if _, e := Program(map[string]string{"main": "use \"a\" if not on\n" + main}, []string{"on"}); e != api.OK {
		t.Errorf("with a flag: error %d", e)
	}
}

// program returns one to be changed.
func program(t *testing.T) []api.Entity {
	p, _, e := Resolve([]Source{source(t, "main", before+"a")}, nil)
	if e != api.OK {
		t.Fatalf("error %d", e)
	}
	return p[builtins:]
}

func TestCheck(t *testing.T) {
	u8 := api.Type{Kind: api.TypeName, Name: "U8", Cap: api.Val}
	this, none := api.Expr{Op: api.OpThis}, api.Expr{}
	typ := func(kind int, args ...api.Type) api.Type { return api.Type{Kind: kind, Args: args} }
	self := func(cap int) api.Type { return api.Type{Kind: api.TypeSelf, Cap: cap} }
	types := map[bool][]api.Type{
		true: {u8, {Kind: api.TypeName, Name: "X", Cap: api.Tag, Mark: api.Aliased, Args: []api.Type{u8}}, {Kind: api.TypeParam, Name: "A"}, {Kind: api.TypeParam, Name: "A", Cap: api.Box, Mark: api.Ephemeral},
			typ(api.TypeUnion, u8, u8), typ(api.TypeBoth, u8, u8, u8), typ(api.TypeTuple, u8, u8), typ(api.TypeArrow, self(0), u8), typ(api.TypeArrow, api.Type{Kind: api.TypeParam, Name: "A"}, u8)},
		false: {{}, {Kind: 8}, {Kind: api.TypeName, Cap: api.Val}, {Kind: api.TypeName, Name: "X"}, {Kind: api.TypeName, Name: "X", Cap: api.CapAny}, {Kind: api.TypeName, Name: "X", Cap: api.Val, Mark: 3}, {Kind: api.TypeName, Name: "X", Cap: -1},
			{Kind: api.TypeParam, Name: ""}, {Kind: api.TypeParam, Name: "A", Cap: api.CapRead}, {Kind: api.TypeParam, Name: "A", Args: []api.Type{u8}}, typ(api.TypeUnion, u8), typ(api.TypeTuple), typ(api.TypeBoth, u8, api.Type{}), typ(api.TypeArrow, u8, u8),
			typ(api.TypeArrow, self(0)), typ(api.TypeArrow, self(0), u8, u8), {Kind: api.TypeUnion, Name: "x", Args: []api.Type{u8, u8}}, {Kind: api.TypeTuple, Cap: api.Val, Args: []api.Type{u8, u8}}, {Kind: api.TypeBoth, Mark: 1, Args: []api.Type{u8, u8}},
			typ(api.TypeArrow, api.Type{Kind: api.TypeSelf, Name: "x"}, u8), typ(api.TypeArrow, typ(api.TypeSelf, u8), u8)},
	}
	exprs := map[bool][]api.Expr{
		true: {this, none, {Op: api.OpLit, Types: []api.Type{u8}}, {Op: api.OpLocal, Text: "x"}, {Op: api.OpGet, Text: "x", Kids: []api.Expr{this}}, {Op: api.OpSet, Text: "x", Kids: []api.Expr{this, this}}, {Op: api.OpVar, Text: "x", Types: []api.Type{u8}},
			{Op: api.OpLet, Text: "x", Types: []api.Type{u8}, Kids: []api.Expr{this}}, {Op: api.OpAssign, Text: "x", Kids: []api.Expr{this}}, {Op: api.OpConsume, Text: "x"}, {Op: api.OpSeq}, {Op: api.OpSeq, Kids: []api.Expr{this, this}}, {Op: api.OpIf, Kids: []api.Expr{this, this, this}},
			{Op: api.OpWhile, Kids: []api.Expr{this, this, this}}, {Op: api.OpMatch, Kids: []api.Expr{this, {Op: api.OpCase, Types: []api.Type{u8}, Kids: []api.Expr{none, this}}, {Op: api.OpCase, Text: "x", Types: []api.Type{u8}, Kids: []api.Expr{this, this}}}},
			{Op: api.OpTry, Kids: []api.Expr{this, this, this}}, {Op: api.OpError}, {Op: api.OpReturn, Kids: []api.Expr{this}}, {Op: api.OpBreak}, {Op: api.OpContinue}, {Op: api.OpCall, Text: "f", Kids: []api.Expr{this, this}, Types: []api.Type{u8, u8}},
			{Op: api.OpNew, Text: "f", Types: []api.Type{u8, u8}}, {Op: api.OpRecover, Types: []api.Type{self(api.Iso)}, Kids: []api.Expr{this}}, {Op: api.OpTuple, Kids: []api.Expr{this, this}}, {Op: api.OpItem, Text: "0", Kids: []api.Expr{this}},
			{Op: api.OpIs, Kids: []api.Expr{this, this}}, {Op: api.OpUnit, Types: []api.Type{u8}}},
		false: {{Op: 27}, {Op: -1}, {Op: api.OpLit}, {Op: api.OpLit, Types: []api.Type{u8}, Kids: []api.Expr{this}}, {Op: api.OpLocal}, {Op: api.OpLocal, Text: "x", Types: []api.Type{u8}}, {Op: api.OpThis, Text: "x"}, {Op: api.OpThis, Kids: []api.Expr{this}}, {Op: api.OpGet, Text: "x"},
			{Op: api.OpGet, Text: "x", Kids: []api.Expr{none}}, {Op: api.OpSet, Text: "x", Kids: []api.Expr{this}}, {Op: api.OpVar, Text: "x"}, {Op: api.OpVar, Types: []api.Type{u8}}, {Op: api.OpLet, Text: "x", Types: []api.Type{u8}, Kids: []api.Expr{this, this}}, {Op: api.OpLet, Text: "x", Types: []api.Type{{}}},
			{Op: api.OpAssign, Text: "x"}, {Op: api.OpConsume}, {Op: api.OpSeq, Text: "x"}, {Op: api.OpSeq, Kids: []api.Expr{none}}, {Op: api.OpIf, Kids: []api.Expr{this, this}}, {Op: api.OpIf, Kids: []api.Expr{this, this, none}}, {Op: api.OpWhile, Kids: []api.Expr{this}}, {Op: api.OpMatch},
			{Op: api.OpMatch, Kids: []api.Expr{this, this}}, {Op: api.OpMatch, Kids: []api.Expr{{Op: api.OpCase, Types: []api.Type{u8}, Kids: []api.Expr{none, this}}}}, {Op: api.OpCase, Types: []api.Type{u8}, Kids: []api.Expr{none, this}},
			{Op: api.OpSeq, Kids: []api.Expr{{Op: api.OpCase, Types: []api.Type{u8}, Kids: []api.Expr{none, this}}}}, {Op: api.OpMatch, Kids: []api.Expr{this, {Op: api.OpCase, Types: []api.Type{u8}, Kids: []api.Expr{none, none}}}}, {Op: api.OpMatch, Kids: []api.Expr{this, {Op: api.OpCase, Kids: []api.Expr{none, this}}}},
			{Op: api.OpTry, Kids: []api.Expr{this, none, this}}, {Op: api.OpError, Kids: []api.Expr{this}}, {Op: api.OpReturn}, {Op: api.OpBreak, Text: "x"}, {Op: api.OpCall, Text: "f"}, {Op: api.OpCall, Kids: []api.Expr{this}}, {Op: api.OpNew, Text: "f"}, {Op: api.OpNew, Types: []api.Type{u8}},
			{Op: api.OpRecover, Types: []api.Type{u8}, Kids: []api.Expr{this}}, {Op: api.OpRecover, Types: []api.Type{self(0)}, Kids: []api.Expr{this}}, {Op: api.OpRecover, Types: []api.Type{self(api.Iso)}}, {Op: api.OpTuple, Kids: []api.Expr{this}}, {Op: api.OpItem, Kids: []api.Expr{this}},
			{Op: api.OpIs, Kids: []api.Expr{this}}, {Op: api.OpUnit}, {Op: api.OpUnit, Types: []api.Type{u8, u8}}},
	}
	set := func(change func(e *api.Entity)) api.Errno {
		p := program(t)
		change(&p[len(p)-1])
		return Check(p)
	}
	code := map[bool]api.Errno{true: api.OK, false: api.ErrForm}
	for ok, l := range types {
		for _, x := range l {
			for i, e := range []api.Errno{
				set(func(e *api.Entity) { e.Provides = []api.Type{x} }), set(func(e *api.Entity) { e.Fields[0].Type = x }), set(func(e *api.Entity) { e.Methods[1].Result = x }), set(func(e *api.Entity) { e.Methods[1].Params[0].Type = x }),
				set(func(e *api.Entity) { e.Methods[1].Body = api.Expr{Op: api.OpVar, Text: "x", Types: []api.Type{x}} }),
			} {
				if e != code[ok] {
					t.Errorf("%d: type %v: error %d", i, x, e)
				}
			}
			sets := (x.Kind == api.TypeName || x.Kind == api.TypeParam) && x.Name != "" && (x.Cap == api.CapAny || x.Cap == api.CapRead)
			for _, e := range []api.Errno{set(func(e *api.Entity) { e.Bounds = []api.Bound{{Name: "B", Type: x}} }), set(func(e *api.Entity) { e.Methods[1].Bounds[0].Type = x })} {
				if e != code[ok || sets] {
					t.Errorf("type %v of a bound: error %d", x, e)
				}
			}
		}
	}
	for ok, l := range exprs {
		for _, x := range l {
			if e := set(func(e *api.Entity) { e.Methods[1].Body = x }); e != code[ok] {
				t.Errorf("%v: error %d", x, e)
			}
			inner := api.Expr{Op: api.OpReturn, Kids: []api.Expr{x}}
			if e := set(func(e *api.Entity) { e.Methods[1].Body = inner }); e != code[ok && x.Op != 0] {
				t.Errorf("%v within another one: error %d", x, e)
			}
		}
	}
}

// TestMissing: a missing body and a missing guard are the zero Expr; all else with the Op 0 is no operation.
func TestMissing(t *testing.T) {
	u8 := api.Type{Kind: api.TypeName, Name: "U8", Cap: api.Val}
	this := api.Expr{Op: api.OpThis}
	guarded := func(guard api.Expr) api.Expr {
		return api.Expr{Op: api.OpMatch, Kids: []api.Expr{this, {Op: api.OpCase, Types: []api.Type{u8}, Kids: []api.Expr{guard, this}}}}
	}
	for i, x := range []struct {
		e    api.Expr
		want api.Errno
	}{
		{api.Expr{}, api.OK}, {api.Expr{Types: []api.Type{}, Kids: []api.Expr{}}, api.OK}, {api.Expr{Text: "x"}, api.ErrForm}, {api.Expr{Types: []api.Type{{}}}, api.ErrForm},
		{api.Expr{Types: []api.Type{u8}}, api.ErrForm}, {api.Expr{Kids: []api.Expr{{}}}, api.ErrForm}, {api.Expr{Kids: []api.Expr{this}}, api.ErrForm},
		{api.Expr{Text: "x", Types: []api.Type{u8}, Kids: []api.Expr{this}}, api.ErrForm}, {api.Expr{Kids: make([]api.Expr, api.MaxNodes)}, api.ErrSize},
	} {
		for _, body := range []api.Expr{x.e, guarded(x.e)} {
			p := program(t)
			p[len(p)-1].Methods[1].Body = body
			if e := Check(p); e != x.want {
				t.Errorf("%d: error %d, want %d", i, e, x.want)
			}
		}
	}
}

func TestCheckEntities(t *testing.T) {
	deep, wide := api.Expr{Op: api.OpThis}, api.Expr{Op: api.OpSeq}
	for range api.MaxTree {
		deep = api.Expr{Op: api.OpSeq, Kids: []api.Expr{deep}}
	}
	for range api.MaxNodes {
		wide.Kids = append(wide.Kids, api.Expr{Op: api.OpThis})
	}
	for i, x := range []struct {
		change func(e *api.Entity)
		e      api.Errno
	}{
		{func(e *api.Entity) {}, api.OK}, {func(e *api.Entity) { e.Kind = 0 }, api.ErrForm}, {func(e *api.Entity) { e.Kind = 6 }, api.ErrForm}, {func(e *api.Entity) { e.Cap = 0 }, api.ErrForm}, {func(e *api.Entity) { e.Cap = api.CapRead }, api.ErrForm}, {func(e *api.Entity) { e.Name = "" }, api.ErrForm},
		{func(e *api.Entity) { e.Name = "main.P" }, api.ErrTwice}, {func(e *api.Entity) { e.Fields[0].Name = "" }, api.ErrForm}, {func(e *api.Entity) { e.Methods[0].Name = "" }, api.ErrForm}, {func(e *api.Entity) { e.Methods[0].Kind = 0 }, api.ErrForm}, {func(e *api.Entity) { e.Methods[0].Kind = 4 }, api.ErrForm},
		{func(e *api.Entity) { e.Methods[0].Cap = 0 }, api.ErrForm}, {func(e *api.Entity) { e.Methods[0].Cap = 7 }, api.ErrForm}, {func(e *api.Entity) { e.Methods[0].Params[0].Name = "" }, api.ErrForm}, {func(e *api.Entity) { e.Methods[1].Bounds[0].Name = "" }, api.ErrForm}, {func(e *api.Entity) { e.Methods[0].Name = "m" }, api.OK},
		{func(e *api.Entity) { e.Methods[1].Body = deep }, api.ErrSize}, {func(e *api.Entity) { e.Methods[1].Body = deep.Kids[0] }, api.OK}, {func(e *api.Entity) { e.Methods[1].Body = wide }, api.ErrSize}, {func(e *api.Entity) { e.Methods[1].Body.Kids = wide.Kids[1:] }, api.ErrForm},
		{func(e *api.Entity) { e.Methods[1].Body = wide; e.Name = ""; e.Fields = make([]api.Field, 65) }, api.ErrFull}, {func(e *api.Entity) { e.Methods[1].Body = wide; e.Name = "" }, api.ErrForm}, {func(e *api.Entity) { e.Fields = make([]api.Field, 65); e.Name = "main.P" }, api.ErrTwice},
		{func(e *api.Entity) { e.Methods = append(e.Methods, make([]api.Method, 63)...) }, api.ErrFull}, {func(e *api.Entity) { e.Methods[0].Params = make([]api.Param, 65) }, api.ErrFull}, {func(e *api.Entity) { e.Methods[0].Bounds = make([]api.Bound, 65) }, api.ErrFull}, {func(e *api.Entity) { e.Bounds = make([]api.Bound, 65) }, api.ErrFull},
		{func(e *api.Entity) { e.Provides = make([]api.Type, 65) }, api.ErrFull}, {func(e *api.Entity) { e.Methods[0].Body = wide; e.Methods[1].Body = api.Expr{Op: 99} }, api.ErrSize}, {func(e *api.Entity) { e.Methods[1].Body = wide; e.Methods[0].Body = api.Expr{Op: 99} }, api.ErrForm},
	} {
		p := program(t)
		x.change(&p[len(p)-1])
		if e := Check(p); e != x.e {
			t.Errorf("%d: error %d, want %d", i, e, x.e)
		}
		if i > 0 && Equal(p, program(t)) {
			t.Errorf("%d: it is equal to what it was", i)
		}
	}
	if e := Check(make([]api.Entity, api.MaxUnits+1)); e != api.ErrFull {
		t.Errorf("too many: error %d", e)
	}
	if e := Check(nil); e != api.OK {
		t.Errorf("none: error %d", e)
	}
	if x, ok := Find(program(t), "nothing"); ok || x.Name != "" {
		t.Error("Find of nothing")
	}
	a, b := program(t), program(t)
	b[0].Fields = []api.Field{}
	if !Equal(a, b) || Equal(a, b[1:]) || !Equal(nil, []api.Entity{}) {
		t.Error("Equal of what is the same")
	}
}

// TestRandom: P6.2 to P6.5, for what can be resolved; no text of a module makes Resolve fail in another way.
func TestRandom(t *testing.T) {
	done := 0
	for seed := range uint64(1500) {
		m := samples.New(seed)
		n := simple(m)
		tree, _, e := sugar.Module(n, []string{"x"})
		if e != api.OK {
			continue
		}
		other := Source{"b", parsed(t, "primitive U\ntype V[X] is (X | U)\nclass W[Z]\n  new create()")}
		l := []Source{{"a", tree}, other}
		p, f, e := Resolve(l, []string{"x"})
		if e != api.OK {
			if _, g := syntax.At(tree, f.Path); g != api.OK || e == api.ErrState || e == api.ErrArg {
				t.Fatalf("error %d at %v", e, f)
			}
			continue
		}
		done++
		if e := Check(p); e != api.OK && e != api.ErrSize {
			t.Fatalf("Check: error %d", e)
		}
		again, _, _ := Resolve(l, []string{"x", "nothing"})
		if !Equal(p, again) {
			t.Fatal("two results")
		}
		slices.Reverse(l)
		turned, _, e := Resolve(l, []string{"x"})
		if e != api.OK || len(turned) != len(p) {
			t.Fatalf("in another order: error %d", e)
		}
		for _, x := range p {
			y, ok := Find(turned, x.Name)
			if !ok || !Equal([]api.Entity{x}, []api.Entity{y}) {
				t.Fatalf("%s is another one in another order", x.Name)
			}
			for _, method := range x.Methods {
				seen := map[string]bool{}
				for _, p := range method.Params {
					seen[p.Name] = true
				}
				onceOnly(t, method.Body, seen)
			}
		}
	}
	if done < 100 {
		t.Errorf("%d programs", done)
	}
}

// onceOnly: no two declarations of a method have one name.
func onceOnly(t *testing.T, e api.Expr, seen map[string]bool) {
	if e.Op == api.OpVar || e.Op == api.OpLet || e.Op == api.OpCase && e.Text != "" {
		if seen[e.Text] {
			t.Fatalf("%s is declared twice", e.Text)
		}
		seen[e.Text] = true
	}
	for _, k := range e.Kids {
		onceOnly(t, k, seen)
	}
}

// simple returns a module of one trait, most of whose names are there.
func simple(m *samples.Maker) api.Node {
	names := "use \"b\"\ntrait T[A, B]\n  var x: U8\n  fun f[C](a: A, b: (B | C)): U8 ? =>\n    "
	var stats []string
	for range 1 + m.Below(8) {
		stats = append(stats, m.One("let c: A = a", "b.g(a)", "let a: (A, B) = b", "if x then let d: U8 else b end", "match a | let b: B => b else a end", "x = a", "for b: A in b do b end",
			"a + b", "{(a: A) => (a, b) }", "U8(1)", "W[A].create()", "U.u()", "let v: V[C val] = U", "recover a end", "object fun z(): A => b end", "try a then b end", "c", "b as A", "[as V[A]: a; b]", "ifdef x then U8 else W end"))
	}
	n, _, _ := parser.Parse(names + strings.Join(stats, "\n    "))
	return n
}

// TestScopes: P6.4.
func TestScopes(t *testing.T) {
	text := "    let x: U8 = a\n    if x then let x: U16; x else x end\n    match x | let x: U8 if x => x end\n    x = x\n    (let x: T, let y: T) = x\n    consume x\n"
	for _, name := range []string{"q", "x'", "longer_name", "_z"} {
		renamed := strings.NewReplacer("x ", name+" ", "x:", name+":", "x\n", name+"\n", "x;", name+";").Replace(text)
		a := resolved(t, source(t, "main", before[:len(before)-4]+text))
		b := resolved(t, source(t, "main", before[:len(before)-4]+renamed))
		at := strings.Index(a, "fun box m[")
		back := strings.NewReplacer("\""+name+"\"", "\"x\"", "\""+name+".", "\"x.").Replace(b[at:])
		if a[:at] != b[:at] || a[at:] != back {
			t.Errorf("%s:\n%s\n%s", name, a[at:], back)
		}
	}
}
