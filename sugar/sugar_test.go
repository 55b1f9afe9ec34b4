package sugar_test

import (
	"slices"
	"strings"
	"testing"

	"hackamore/api"
	"hackamore/format"
	"hackamore/parser"
	"hackamore/samples"
	. "hackamore/sugar"
	"hackamore/syntax"
)

func parsed(t *testing.T, text string) api.Node {
	t.Helper()
	n, at, e := parser.Parse(text)
	if e != api.OK {
		t.Fatalf("%s: error %d at %d", text, e, at)
	}
	return n
}

// plain returns the canonical text of the plain tree of a text.
func plain(t *testing.T, text string, flags ...string) string {
	t.Helper()
	n, path, e := Module(parsed(t, text), flags)
	if e != api.OK {
		t.Fatalf("%s: error %d at %v", text, e, path)
	}
	if !IsPlain(n) {
		t.Errorf("%s: the tree is not plain", text)
	}
	s, _ := format.Text(n)
	return s
}

const head = `class C
  var n: U32 = 1
  fun g(a: U32, b: U32 = 2): U32 => a
  fun f(x: U32, c: C) =>
`

// TestExpressions: what the body of a method becomes, and the entities that are made of it.
func TestExpressions(t *testing.T) {
	for s, want := range map[string]string{
		// calls, arguments and names
		"x + n":                 "x.add(this.n)",
		"g(1)":                  "this.g(1, 2)",
		"g(where b = 3, a = n)": "this.g(this.n, 3)",
		"this.g(1)":             "this.g(1, 2)",
		"this.g(1, 3)?":         "this.g(1, 3)?",
		"let g: U8; this.g(1)":  "let g: U8\nthis.g(1, 2)",
		"let g: U8; g(1)":       "let g: U8\ng.apply(1)",
		"g[U8](1)":              "this.g[U8](1)",
		"this.g[U8](1)":         "this.g[U8](1)",
		"c(1)?":                 "c.apply(1)?",
		"n(1)":                  "this.n.apply(1)",
		"c[U8](1)":              "c[U8].apply(1)",
		"n[U8](1)":              "this.n[U8].apply(1)",
		"h(1)":                  "this.h(1)",
		"h[U8](1)":              "this.h[U8](1)",
		"h[U8]":                 "this.h[U8]",
		"C":                     "C",
		"C()":                   "C.create()",
		"C.g(1)":                "C.g(1, 2)",
		"C[U8](1)":              "C[U8].create(1)",
		"C[U8].g(1)":            "C[U8].g(1)",
		"D(1)":                  "D.create(1)",
		"D.m[U8](n)":            "D.m[U8](this.n)",
		"x.m(1)(2)":             "x.m(1).apply(2)",
		"(x + 1)(2)":            "x.add(1).apply(2)",
		"this(1)":               "this.apply(1)",
		"\"a\"(1)":              "\"a\".apply(1)",
		"x[U8][U8](1)":          "x[U8][U8].apply(1)",
		"_y; _Y; y":             "_y\n_Y\ny",
		"consume n":             "consume this.n",
		"consume x":             "consume x",
		"_y(1); _Y(1)":          "this._y(1)\n_Y.create(1)",
		"n = n":                 "this.n = this.n",
		"let n: U8 = n; n":      "let n: U8 = this.n\nn",
		"y = 1; Y = 1":          "y = 1\nY = 1",
		"x = n = 1":             "x = this.n = 1",
		"x.y.n = n":             "x.y.n = this.n",
		"c(1) = 2":              "c.update(1, 2)",
		"c(1, n)? = x + 1":      "c.update(1, this.n, x.add(1))",
		"c.d(1)? = 2":           "c.d.update(1, 2)",
		"c.d(1)?(2)? = x(3)?":   "c.d(1)?.update(2, x.apply(3)?)",
		"c.d[U8](1)? = 2":       "c.d[U8].update(1, 2)",
		"c(1)? = x(2)? = 3":     "c.update(1, x.update(2, 3))",
		"c.d(1) = 2":            "c.d.update(1, 2)",
		"h(1) = 2":              "h.update(1, 2)",
		"n(1) = 2":              "this.n.update(1, 2)",
		"h[U8](1) = 2":          "this.h[U8].update(1, 2)",
		"D(1) = 2":              "D.update(1, 2)",
		"D.m(1) = 2":            "D.m.update(1, 2)",
		"c(1)(2) = 3":           "c.apply(1).update(2, 3)",
		// operators
		"x - 1 - n":                "x.sub(1).sub(this.n)",
		"(x * 1) / (x % 2)":        "x.mul(1).div(x.rem(2))",
		"(x << 1) xor (x >> 1)":    "x.shl(1).op_xor(x.shr(1))",
		"(x == 1, x != 1, x < 1)":  "(x.eq(1), x.ne(1), x.lt(1))",
		"(x <= 1, x > 1, x >= 1)":  "(x.le(1), x.gt(1), x.ge(1))",
		"(x +? 1, x -? 1, x *? 1)": "(x.add_partial(1)?, x.sub_partial(1)?, x.mul_partial(1)?)",
		"(x /? 1, x %? 1)":         "(x.div_partial(1)?, x.rem_partial(1)?)",
		"not -x":                   "x.neg().op_not()",
		"x is c; x isnt n":         "x is c\nx isnt this.n",
		"x and c and n":            "if if x then\n  c\nelse\n  false\nend then\n  this.n\nelse\n  false\nend",
		"x or n":                   "if x then\n  true\nelse\n  this.n\nend",
		"x as U8":                  "match x\n| let _1: U8 =>\n  consume _1\nelse\n  error\nend",
		// arrays and loops
		"[as U8: 1; n]":                           "let _1: Array[U8] ref = Array[U8].create()\n_1.push(1)\n_1.push(this.n)\nconsume _1",
		"[as U8:]":                                "let _1: Array[U8] ref = Array[U8].create()\nconsume _1",
		"x; [as U8:]; x":                          "x\nlet _1: Array[U8] ref = Array[U8].create()\nconsume _1\nx",
		"x = [as U8:]":                            "x = (let _1: Array[U8] ref = Array[U8].create(); consume _1)",
		"while x do n else c end":                 "while x do\n  this.n\nelse\n  c\nend",
		"repeat n until x end":                    "var _1: Bool = true\nwhile if _1 then\n  _1 = false\n  true\nelse\n  x.op_not()\nend do\n  this.n\nend",
		"for i: U8 in n do i else i end":          "let _1: Iterator[U8] ref = this.n\nwhile _1.has_next() do\n  let i: U8 = try\n    _1.next()?\n  else\n    break\n  end\n  i\nelse\n  i\nend",
		"for n: U8 in n do n; n(1) else n end; n": "let _1: Iterator[U8] ref = this.n\nwhile _1.has_next() do\n  let n: U8 = try\n    _1.next()?\n  else\n    break\n  end\n  n\n  n.apply(1)\nelse\n  this.n\nend\nthis.n",
		"with n: U8 = n do n end; n":              "let n: U8 = this.n\ntry\n  n\nelse\n  error\nthen\n  n.dispose()\nend\nn",
		"with y: U8 = x do let n: U8 end; n":      "let y: U8 = x\ntry\n  let n: U8\nelse\n  error\nthen\n  y.dispose()\nend\nthis.n",
		// flags
		"ifdef linux then n end":                                     "this.n",
		"ifdef windows then n end":                                   "None",
		"ifdef windows then n else let n: U8; n end; n":              "let n: U8\nn\nn",
		"ifdef (linux and true) and (not windows) then 1 else 2 end": "1",
		"ifdef false or windows then x(where a = 1) else 2 end":      "2",
		// scopes
		"if let n: U8 = n; n then n else n end; n":                     "if (let n: U8 = this.n; n) then\n  n\nelse\n  n\nend\nthis.n",
		"if x then let n: U8; n else n end; n":                         "if x then\n  let n: U8\n  n\nelse\n  this.n\nend\nthis.n",
		"while x do let n: U8 else n end; n":                           "while x do\n  let n: U8\nelse\n  this.n\nend\nthis.n",
		"while let n: U8 = x do n else n end; n":                       "while let n: U8 = x do\n  n\nelse\n  n\nend\nthis.n",
		"try let n: U8 else n then n end; n":                           "try\n  let n: U8\nelse\n  this.n\nthen\n  this.n\nend\nthis.n",
		"recover let n: U8; n end; n":                                  "recover\n  let n: U8\n  n\nend\nthis.n",
		"f(let n: U8, n)":                                              "this.f(let n: U8, n)",
		"match let n: U8 = x | let y: U8 => n end; n":                  "match let n: U8 = x\n| let y: U8 =>\n  n\nend\nthis.n",
		"match x | let n: U8 if n => n | let y: U8 => n else n end; n": "match x\n| let n: U8 if n =>\n  n\n| let y: U8 =>\n  this.n\nelse\n  this.n\nend\nthis.n",
		"repeat let n: U8 until n end; n":                              "var _1: Bool = true\nwhile if _1 then\n  _1 = false\n  true\nelse\n  this.n.op_not()\nend do\n  let n: U8\nend\nthis.n",
		// patterns and tuples
		"match x | C => 1 | D[U8, U8] => 2 | let _: U8 => 3 end": "match x\n| let _1: C =>\n  1\n| let _2: D[U8, U8] =>\n  2\n| let _: U8 =>\n  3\nend",
		"match x | (let p: A, (var n: B, let r: D)) => n end; n": "match x\n| let _1: (A, (B, D)) =>\n  let p: A = _1._1\n  let _2: (B, D) = _1._2\n  var n: B = _2._1\n  let r: D = _2._2\n  _2\n  n\nend\nthis.n",
		"match x | (let p: A, let n: B) if n => p end":           "match x\n| let _1: (A, B) if (let p: A = _1._1; let n: B = _1._2; n) =>\n  let p: A = _1._1\n  let n: B = _1._2\n  p\nend",
		"(let p: A, (let n: B, var r: D)) = n; n":                "let _1: (A, (B, D)) = this.n\nlet p: A = _1._1\nlet _2: (B, D) = _1._2\nlet n: B = _2._1\nvar r: D = _2._2\n_2\n_1\nn",
		// chains
		"c.>g(1).>g(2)?":             "c.g(1)\nc.g(2)?\nc",
		"this.>g(1).>g(where a = 2)": "this.g(1, 2)\nthis.g(2, 2)\nthis",
		"c.>g(1).h()":                "(c.g(1); c).h()",
		"x = c.>g(n)":                "x = (c.g(this.n); c)",
	} {
		want = "    " + strings.ReplaceAll(want, "\n", "\n    ") + "\n"
		got := plain(t, head+s, "linux")
		at := strings.Index(got, "fun f(")
		if got = got[at+strings.Index(got[at:], "\n")+1:]; got != want {
			t.Errorf("%s:\n%swant\n%s", s, got, want)
		}
	}
}

// modules are texts, with their plain forms.
var modules = map[string]string{
	// constructors
	"class C\n  var a: U8 = b\n  let b: U8\n  var d: U8 = a\n  new create() => x\n  new other[T](a: U8)\n  fun f() => 1": "class C\n  var a: U8\n  let b: U8\n  var d: U8\n  new create() =>\n    this.a = this.b\n    this.d = this.a\n    x\n  new other[T](a: U8) =>\n    this.a = this.b\n    this.d = this.a\n    this\n  fun f() =>\n    1\n",
	"class C":                               "class C\n  new create() =>\n    this\n",
	"actor A\n  be b()":                     "actor A\n  new create() =>\n    this\n  be b()\n",
	"class C\n  let a: U8\n  var b: U8 = 1": "class C\n  let a: U8\n  var b: U8\n",
	"primitive P\ntrait T\n  fun f()\ninterface I\ntype X is U8": "primitive P\ntrait T\n  fun f()\ninterface I\ntype X is U8\n",
	"class C\n  new create()\nprimitive Q\n  new x(a: U8 = 1)":   "class C\n  new create()\nprimitive Q\n  new x(a: U8)\n",
	"use \"a\" if not b\nprimitive P":                            "use \"a\" if not b\nprimitive P\n",
	// default values are rewritten at the call, with nothing in scope
	"class C\n  var n: U8\n  new create(a: U8, b: U8 = n + f(g))\n  fun f(x: U8 = 1, y: U8 = create(2)) =>\n    let g: U8 = 3\n    C(g)\n    C(where b = g, a = f())": "class C\n  var n: U8\n  new create(a: U8, b: U8)\n  fun f(x: U8, y: U8) =>\n    let g: U8 = 3\n    C.create(g, n.add(this.f(g)))\n    C.create(this.f(1, this.create(2)), g)\n",
	// object literals
	"class C[A]\n  fun f[B: A](x: U8, y: U16, z: A) =>\n    object iso is I\n      let p: U8 = x\n      var q: A\n      fun m(a: U8 = 1) => y; p; q; m(); x = y; z(1)\n      fun n(y: U8) => y\n    end": "class C[A]\n  new create() =>\n    this\n  fun f[B: A](x: U8, y: U16, z: A) =>\n    recover iso\n      _O1[A, B].create(x, y, z)\n    end\nclass _O1[A, B: A] is I\n  let x: U8\n  let y: U16\n  let z: A\n  let p: U8\n  var q: A\n  new create(x: U8, y: U16, z: A) =>\n    this.x = x\n    this.y = y\n    this.z = z\n    this.p = x\n    this\n  fun m(a: U8) =>\n    this.y\n    this.p\n    this.q\n    this.m(1)\n    this.x = this.y\n    this.z.apply(1)\n  fun n(y: U8) =>\n    y\n",
	"primitive P\n  fun f(x: U8) =>\n    object ref be b() => x end\n    object ref fun c() => 1 end":                                                                                                    "primitive P\n  fun f(x: U8) =>\n    _O1.create(x)\n    _O2.create()\nactor _O1\n  let x: U8\n  new create(x: U8) =>\n    this.x = x\n    this\n  be b() =>\n    this.x\nclass _O2\n  new create() =>\n    this\n  fun c() =>\n    1\n",
	// a literal in a literal gets what is around both from the outer one; fields of this are not seen
	"primitive P\n  let w: U8\n  fun f(x: U8, y: U8) =>\n    {() => {() => (y, x, w, f(1)) } }": "primitive P\n  let w: U8\n  fun f(x: U8, y: U8) =>\n    _O1.create(y, x)\nclass _O1\n  let y: U8\n  let x: U8\n  new create(y: U8, x: U8) =>\n    this.y = y\n    this.x = x\n    this\n  fun apply() =>\n    _O2.create(this.y, this.x)\nclass _O2\n  let y: U8\n  let x: U8\n  new create(y: U8, x: U8) =>\n    this.y = y\n    this.x = x\n    this\n  fun apply() =>\n    (this.y, this.x, w, this.f(1))\n",
	// lambdas and their types
	"primitive P\n  fun f(x: U8) =>\n    {(a: U8)(b: U8 = x, c: U16 = 1): U8 ? => a + b + x } val": "primitive P\n  fun f(x: U8) =>\n    recover val\n      _O1.create(x, 1, x)\n    end\nclass _O1\n  let b: U8\n  let c: U16\n  let x: U8\n  new create(b: U8, c: U16, x: U8) =>\n    this.b = b\n    this.c = c\n    this.x = x\n    this\n  fun val apply(a: U8): U8 ? =>\n    a.add(this.b).add(this.x)\n",
	"interface J[A]\n  fun f[B](x: {(A, {(B)} val): U8 ?} iso^): {()}!":                            "interface J[A]\n  fun f[B](x: _O1[A, B] iso^): _O3[A, B]!\ninterface _O1[A, B]\n  fun apply(_a1: A, _a2: _O2[A, B] val): U8 ?\ninterface _O2[A, B]\n  fun val apply(_a1: B)\ninterface _O3[A, B]\n  fun apply()\n",
	"interface J[A: {(B)}, B]": "interface J[A: _O1[A, B], B]\ninterface _O1[A: _O1[A, B], B]\n  fun apply(_a1: B)\n",
	// partial application
	"class C[A]\n  fun ref m[B](a: U8, b: U16, c: A = 1): U8 ? => a\n  be g(a: U8)\n  fun f(x: U8) =>\n    this~m(x where c = 2)\n    this~g()\n    C~m(1)": "class C[A]\n  new create() =>\n    this\n  fun ref m[B](a: U8, b: U16, c: A): U8 ? =>\n    a\n  be g(a: U8)\n  fun f(x: U8) =>\n    _O1[A].create(this, x, 2)\n    _O2[A].create(this)\n    _O3[A].create(1)\n" +
		"class _O1[A]\n  let _this: C[A] ref\n  let _1: U8\n  let _2: A\n  new create(_this: C[A] ref, _1: U8, _2: A) =>\n    this._this = _this\n    this._1 = _1\n    this._2 = _2\n    this\n  fun apply(b: U16): U8 ? =>\n    this._this.m(this._1, b, this._2)\n" +
		"class _O2[A]\n  let _this: C[A] tag\n  new create(_this: C[A] tag) =>\n    this._this = _this\n    this\n  fun apply(a: U8) =>\n    this._this.g(a)\n" +
		"class _O3[A]\n  let _3: U8\n  new create(_3: U8) =>\n    this._3 = _3\n    this\n  fun apply(b: U16, c: A): U8 ? =>\n    C.m(this._3, b, c)\n",
	// fresh names are none of the texts
	"primitive P\n  fun f(_1: U8, x: U8) =>\n    x._3\n    x as U8\n    \"_5\" as U8\n    x as _O1\n    {() => _6 }": "primitive P\n  fun f(_1: U8, x: U8) =>\n    x._3\n    match x\n    | let _2: U8 =>\n      consume _2\n    else\n      error\n    end\n    match \"_5\"\n    | let _4: U8 =>\n      consume _4\n    else\n      error\n    end\n    match x\n    | let _7: _O1 =>\n      consume _7\n    else\n      error\n    end\n    _O2.create()\nclass _O2\n  new create() =>\n    this\n  fun apply() =>\n    _6\n",
}

func TestModules(t *testing.T) {
	for s, want := range modules {
		if got := plain(t, s); got != want {
			t.Errorf("%s:\n%s\nwant\n%s", s, got, want)
		}
	}
	n := parsed(t, "class C\n  new create()")
	n.Kids[0].Kids = append(n.Kids[0].Kids, parsed(t, "class D let x: U8").Kids[0].Kids[4])
	m, _, e := Module(n, nil)
	if s, _ := format.Text(m); e != api.OK || s != "class C\n  let x: U8\n  new create()\n" {
		t.Errorf("a field behind a method: %s, error %d", s, e)
	}
}

func TestErrors(t *testing.T) {
	for _, x := range []struct {
		text, at string
		e        api.Errno
	}{
		{"g()", "g()", ErrArgs}, {"g(1, 2, 3)", "g(1, 2, 3)", ErrArgs}, {"this.g(1, 2 where a = 3)", "this.g(1, 2 where a = 3)", ErrArgs},
		{"g(where a = 1, a = 2)", "g(where a = 1, a = 2)", ErrArgs}, {"g(1 where z = 2)", "g(1 where z = 2)", ErrArgs}, {"x.g(1 where a = 2)", "x.g(1 where a = 2)", ErrArgs},
		{"h(where a = 2)", "h(where a = 2)", ErrArgs}, {"C.g()", "C.g()", ErrArgs}, {"C(1)", "C(1)", ErrArgs}, {"g[U8](1 where b = 2)", "g[U8](1 where b = 2)", ErrArgs},
		{"D(where a = 1)", "D(where a = 1)", ErrArgs}, {"f(g(), C)", "g()", ErrArgs}, {"f(g())", "f(g())", ErrArgs}, {"x(where a = 1)", "x(where a = 1)", ErrArgs},
		{"c(1 where a = 2) = 3", "", ErrArgs}, {"{() => g(where a = 1) }", "g(where a = 1)", ErrArgs},
		{"g(1) = 2", "g(1) = 2", ErrAssign}, {"this.g(1) = 2", "this.g(1) = 2", ErrAssign}, {"C.g(1) = g()", "C.g(1) = g()", ErrAssign}, {"C() = 2", "C() = 2", ErrAssign},
		{"(let a: A, x) = g()", "(let a: A, x) = g()", ErrAssign}, {"(let a: A, (let b: B, c.d)) = 1", "(let a: A, (let b: B, c.d)) = 1", ErrAssign}, {"(x, n) = 1", "(x, n) = 1", ErrAssign},
		{"match x | 1 => g() end", "1", ErrPattern}, {"match x | y => 1 end", "y", ErrPattern}, {"match x | (let a: A, 1) => 1 end", "(let a: A, 1)", ErrPattern}, {"match x | C() => 1 end", "C()", ErrPattern},
		{"match x | C.y => 1 end", "C.y", ErrPattern}, {"match g() | 1 => 1 end", "g()", ErrArgs}, {"match x | 1 => 1 else g() end", "g()", ErrArgs}, {"match x | y[U8] => 1 end", "y[U8]", ErrPattern}, {"match x | let a: A => 1 | 2 => 2 end", "2", ErrPattern},
		{"x.>g", "x.>g", ErrChain}, {"n.>g(1)", "n.>g", ErrChain}, {"x.y.>g(1)", "x.y.>g", ErrChain}, {"C.>g(1)", "C.>g", ErrChain}, {"y.>g(1)", "y.>g", ErrChain}, {"x.>g.h", "x.>g", ErrChain}, {"x.y.>g(1).>h(2)", "x.y.>g", ErrChain},
		{"x.>g(where a = 1).>h(where b = 2)", "x.>g(where a = 1)", ErrArgs}, {"x.>g(1).>h(where b = 2)", "x.>g(1).>h(where b = 2)", ErrArgs}, {"x.>h(1)[U8].>g(1)", "x.>h(1)[U8].>g", ErrChain}, {"this.>g()", "this.>g()", ErrArgs},
		{"x.>g(1) = 2", "x.>g", ErrChain}, {"{() => x.>g(1) }", "x.>g", ErrChain}, {"1.>g(1)", "1.>g", ErrChain}, {"x.>g[U8](1)", "x.>g", ErrChain},
		{"this~g", "this~g", ErrChain}, {"x~g(1)", "x~g", ErrChain}, {"this~h(1)", "this~h", ErrChain}, {"D~g(1)", "D~g", ErrChain}, {"this~n(1)", "this~n", ErrChain}, {"C~create()", "C~create", ErrChain}, {"this~g(1, 2, 3)", "this~g(1, 2, 3)", ErrArgs},
		{"this~g(where z = 1)", "this~g(where z = 1)", ErrArgs}, {"this~g(1 where a = 1)", "this~g(1 where a = 1)", ErrArgs}, {"this~g[U8](1)", "this~g", ErrChain}, {"C[U8]~g(1)", "C[U8]~g", ErrChain}, {"this~g(g())", "g()", ErrArgs},
		{"ifdef 1 then g() end", "1", api.ErrForm}, {"ifdef a and (b xor 1) then 1 end", "b xor 1", api.ErrForm}, {"ifdef true or -a then 1 end", "-a", api.ErrForm}, {"ifdef not (a == b) then 1 end", "a == b", api.ErrForm},
		{"ifdef a.b then 1 end", "a.b", api.ErrForm}, {"object fun a() => 1 new b() end", "new", api.ErrForm}, {"object fun a() => g(where z = 1) new b() end", "g(where z = 1)", ErrArgs}, {"object let a: A = g(where z = 1) new b() end", "g(where z = 1)", ErrArgs},
		{"g(); x.>g", "g()", ErrArgs}, {"(x.>g, g())", "x.>g", ErrChain}, {"a = g() + x.>h", "g()", ErrArgs},
	} {
		n := parsed(t, head+x.text)
		got, path, e := Module(n, nil)
		part, f := syntax.At(n, path)
		s, _ := format.Text(part)
		if part.Kind == syntax.Method {
			s = part.Kids[0].Text
		}
		if e != x.e || f != api.OK || s != x.at || !syntax.Equal(got, api.Node{}) {
			t.Errorf("%s: error %d at %v %s, want %d at %s", x.text, e, path, s, x.e, x.at)
		}
	}
	for text, path := range map[string][]int{
		"class C var x: U8 = f(where y = 1) fun f() => g(where z = 1)":                   {0, 4, 2},
		"class C var x: U8 = f(where y = 1) fun f() => g(where z = 1) new create() => 1": {0, 5, 6},
		"class C new create() => f() fun f(x: U8 = g(where z = 1)) => g(where z = 2)":    {0, 5, 3, 0, 1},
	} {
		if _, at, e := Module(parsed(t, text), nil); e != ErrArgs || !slices.Equal(at, path) {
			t.Errorf("%s: error %d at %v, want %v", text, e, at, path)
		}
	}
}

// TestUnused: values and default values that stand nowhere in the plain tree have no errors.
func TestUnused(t *testing.T) {
	for _, s := range []string{
		"class C fun f(x: U8 = g(where z = 1)) => 1", "class C let y: U8 var x: U8 = f(where y = 1) fun f()", "class C fun f() => ifdef no then f(1) end",
	} {
		plain(t, s)
	}
}

func TestArguments(t *testing.T) {
	for _, n := range []api.Node{{Kind: syntax.This}, {Kind: syntax.Word, Text: "a"}} {
		if m, path, e := Module(n, nil); e != api.ErrArg || len(path) > 0 || !syntax.Equal(m, api.Node{}) || IsPlain(n) {
			t.Errorf("%v: error %d", n, e)
		}
	}
	if _, _, e := Module(api.Node{}, nil); e != api.ErrForm {
		t.Errorf("no node: error %d", e)
	}
	wide := api.Node{Kind: syntax.Module, Kids: make([]api.Node, api.MaxNodes)}
	if _, _, e := Module(wide, nil); e != api.ErrSize {
		t.Errorf("too many nodes: error %d", e)
	}
	large := "class C fun f(x: U8) => " + strings.Repeat("[as U8:];", 500) + "x"
	if m, path, e := Module(parsed(t, large), nil); e != api.ErrSize || len(path) > 0 || !syntax.Equal(m, api.Node{}) {
		t.Errorf("too many plain nodes: error %d at %v", e, path)
	}
	if _, path, e := Module(parsed(t, large+"; f()"), nil); e != ErrArgs || len(path) == 0 {
		t.Errorf("an error ahead of that of the size: error %d at %v", e, path)
	}
	// Default values that are written for many calls, in values of fields for many constructors.
	many := "class C fun f(x: U8 = (" + strings.Repeat("1;", 900) + "1)) => 1 "
	many += strings.Repeat("new a() ", 100)
	values := parsed(t, "class C var v: U8 = ("+strings.Repeat("f();", 500)+"1)").Kids[0].Kids[4]
	n := parsed(t, many)
	n.Kids[0].Kids = append(n.Kids[0].Kids, values)
	if _, path, e := Module(n, nil); e != api.ErrSize || len(path) > 0 {
		t.Errorf("many plain nodes: error %d at %v", e, path)
	}
}

func TestIsPlain(t *testing.T) {
	for s, want := range map[string]bool{
		"class C fun f(x: U8): U8 ? => this.x = a.b[U8](c)?; let y: U8 = 1; match a | let b: B if c => d else e end; a is b": true,
		"use \"a\" if not b and c": true, "class C let x: U8": true, "class C let x: U8 = 1": false, "class C fun f(x: U8 = 1)": false,
		"class C fun f() => a(1)": false, "class C fun f() => a[U8](1)": false, "class C fun f() => C(1)": false, "class C fun f() => a.b(where c = 1)": false,
		"class C fun f() => a + b": false, "class C fun f() => not b": false, "class C fun f() => a isnt b": true, "class C fun f() => a and b": false,
		"class C fun f() => a as B": false, "class C fun f() => a~b": false, "class C fun f() => a.>b": false, "class C fun f() => [as U8:]": false,
		"class C fun f() => repeat a until b end": false, "class C fun f() => for a: A in b do c end": false, "class C fun f() => with a: A = b do c end": false,
		"class C fun f() => ifdef a then b end": false, "class C fun f() => object end": false, "class C fun f() => {() => 1 }": false, "class C let x: {()}": false,
		"class C fun f() => match a | B => c end": false, "class C fun f() => (let a: A, let b: B) = c": false, "class C fun f() => a.b(1) = c": false,
		"class C fun f() => match a | (let b: B, let c: C) => d end": false, "class C fun f() => while a do b end; try c end; recover d end; return; consume e": true,
	} {
		if IsPlain(parsed(t, s)) != want {
			t.Errorf("%s: IsPlain is %v", s, !want)
		}
	}
	for _, n := range []api.Node{{}, {Kind: syntax.This}, {Kind: syntax.Module, Text: "x"}} {
		if IsPlain(n) {
			t.Errorf("%v is plain", n)
		}
	}
}

// tame returns a tree without most of what has errors.
func tame(n api.Node, m *samples.Maker) api.Node {
	out := api.Node{Kind: n.Kind, Text: n.Text}
	for _, k := range n.Kids {
		if k.Kind != syntax.Named {
			out.Kids = append(out.Kids, tame(k, m))
		}
	}
	nothing := api.Node{Kind: syntax.Nothing}
	switch n.Kind {
	case syntax.Tilde, syntax.Chain:
		out.Kind = syntax.Dot
	case syntax.Param:
		out.Kids[1] = nothing
	case syntax.Ifdef:
		out.Kids[0] = api.Node{Kind: syntax.Name, Text: m.One("a", "b")}
	case syntax.Assign:
		if k := out.Kids[0].Kind; k == syntax.Tuple || k == syntax.Call {
			out.Kids[0] = api.Node{Kind: syntax.Name, Text: m.Name()}
		}
	case syntax.Case:
		if out.Kids[0].Kind != syntax.Decl {
			out.Kids[0] = api.Node{Kind: syntax.Name, Text: m.One("A", "B")}
		}
	case syntax.Object:
		for i, k := range out.Kids {
			if k.Kind == syntax.Method && k.Kids[0].Text == "new" {
				out.Kids[i].Kids[0].Text = "fun"
			}
		}
	}
	return out
}

// TestRandom: P5.2 and P5.3, and that results depend on the arguments alone.
func TestRandom(t *testing.T) {
	done := 0
	for seed := range uint64(3000) {
		m := samples.New(seed)
		n := tame(m.Module(3), m)
		before, e := syntax.Text(n)
		if e != api.OK {
			continue
		}
		p, path, e := Module(n, []string{"a"})
		if after, _ := syntax.Text(n); after != before {
			t.Fatal("the tree was changed")
		}
		if e != api.OK {
			if _, f := syntax.At(n, path); f != api.OK || !slices.Contains([]api.Errno{ErrArgs, ErrAssign, ErrPattern, ErrChain, api.ErrSize}, e) || p.Kind != 0 {
				t.Fatalf("error %d at %v", e, path)
			}
			continue
		}
		done++
		if !IsPlain(p) {
			s, _ := syntax.Text(p)
			t.Fatalf("not plain: %s", s)
		}
		again, _, _ := Module(n, []string{"a"})
		if !syntax.Equal(again, p) {
			t.Fatal("two results")
		}
		checkEntities(t, n, p, before)
		twice, path, e := Module(p, []string{"a"})
		if e != api.OK || !syntax.Equal(twice, p) {
			s, _ := format.Text(p)
			again, _ := format.Text(twice)
			if !twoNames(p) {
				t.Fatalf("a plain tree is changed (error %d at %v):\n%s\n%s", e, path, s, again)
			}
		}
	}
	if done < 300 {
		t.Errorf("%d modules", done)
	}
}

// twoNames reports whether two entities, or two members of one, have one name; then other calls may be known.
func twoNames(n api.Node) bool {
	seen := map[string]bool{}
	for _, k := range n.Kids {
		if k.Kind == syntax.Entity || k.Kind == syntax.Method || k.Kind == syntax.Field {
			if seen[k.Text] || k.Kind == syntax.Entity && twoNames(k) {
				return true
			}
			seen[k.Text] = true
		}
	}
	return false
}

// checkEntities: the entities of a module are there in their order, with their members; all others have fresh names.
func checkEntities(t *testing.T, n, p api.Node, text string) {
	i := 0
	for _, k := range p.Kids {
		if i < len(n.Kids) && n.Kids[i].Kind == k.Kind && n.Kids[i].Text == k.Text {
			var want, got []string
			for _, kind := range []int{syntax.Field, syntax.Method} {
				for _, m := range n.Kids[i].Kids {
					if m.Kind == kind {
						want = append(want, m.Text)
					}
				}
			}
			for _, m := range k.Kids {
				if syntax.IsMember(m) {
					got = append(got, m.Text)
				}
			}
			if !slices.Equal(got, want) && !slices.Equal(slices.Delete(got, firstMethod(k), firstMethod(k)+1), want) {
				t.Fatalf("members %v, want %v", got, want)
			}
			i++
		} else if strings.Contains(text, "\""+k.Text+"\"") || !strings.HasPrefix(k.Text, "_O") {
			t.Fatalf("%s is no fresh name", k.Text)
		}
	}
	if i != len(n.Kids) {
		t.Fatal("an entity is gone")
	}
}

// firstMethod returns the number of fields ahead of the first method, where a constructor is put in.
func firstMethod(n api.Node) int {
	count := 0
	for _, m := range n.Kids {
		if m.Kind == syntax.Field {
			count++
		}
	}
	return count
}

// TestLocality: P5.4.
func TestLocality(t *testing.T) {
	a := plain(t, head+"{() => x + n }\n  fun last() => this~g(1)\nclass Z\n  fun z(x: U8) => {() => x }")
	b := plain(t, head+"1\n  fun last() => this~g(1)\nclass Z\n  fun z(x: U8) => {() => x }")
	cut := func(s string) string { return s[strings.Index(s, "  fun last"):strings.Index(s, "class _O1")] }
	rename := strings.NewReplacer("_O3", "_O2", "_O2", "_O1", "_O1", "_O0")
	if rename.Replace(cut(a)) != cut(b) {
		t.Errorf("%s\n%s", cut(a), cut(b))
	}
}

// TestExamples: the section Examples of the chapter.
func TestExamples(t *testing.T) {
	for text, want := range map[string]string{
		"primitive P fun f(x: U32): U32 => x + 1":                          `(Call (Dot "add" (Name "x")) (Word) (IntLit "1"))`,
		"primitive P fun f(a: A, b: A, c: A) => if a and not b then c end": `(If (If (Name "a") (Call (Dot "op_not" (Name "b")) (Word)) (BoolLit "false")) (Name "c") (Nothing))`,
		"primitive P fun g() => let x: X; x.>f() fun f()":                  `(Seq (Decl "x" (Word "let") (NamedType "X" (Word) (Word))) (Call (Dot "f" (Name "x")) (Word)) (Name "x"))`,
	} {
		n, _, e := Module(parsed(t, text), nil)
		body, _ := syntax.At(n, []int{0, 4, 6})
		if s, _ := syntax.Text(body); e != api.OK || s != want {
			t.Errorf("%s: %s, error %d", text, s, e)
		}
	}
}
