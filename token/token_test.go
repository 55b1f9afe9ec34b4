package token

import (
	"math/rand"
	"slices"
	"strings"
	"testing"

	"hackamore/api"
)

// show returns the kinds and texts of tokens, with a line feed for each Line.
func show(l []Token) string {
	var out []string
	for _, t := range l {
		mark := ""
		if t.Line {
			mark = "\n"
		}
		out = append(out, mark+string(rune('0'+t.Kind))+t.Text)
	}
	return strings.Join(out, " ")
}

func TestScan(t *testing.T) {
	for text, want := range map[string]string{
		"":                            "",
		" \t\r\n// a\n/* b */":        "",
		"let x' = 0xFF // a":          "\n2let 1x' 6= 3255",
		"1.e":                         "\n31 6. 1e",
		"a.>b":                        "\n1a 6.> 1b",
		`"a\x41"`:                     "\n5aA",
		"f (\n1)":                     "\n1f 6( \n31 6)",
		"let' _ __a' x''y":            "\n1let' 1_ 1__a' 1x'' 1y",
		"007 0 1_000 0b1_01 0xaF_0":   "\n37 30 31000 35 32800",
		"1.50E+10 1e-5 0_0.2_5 1e5_0": "\n41.50e+10 41e-5 400.25 41e50",
		"1.5.6 0x1.5 1e5.3":           "\n41.5 6. 36 31 6. 35 41e5 6. 33",
		"340282366920938463463374607431768211455":   "\n3340282366920938463463374607431768211455",
		"0xFFFFFFFFFFFFFFFFFFFFFFFFFFFFFFFF":        "\n3340282366920938463463374607431768211455",
		`'a' 'é' '"' '\'' '\n' '\x41' '\u00e9' '😀'`: "\n397 3233 334 339 310 365 3233 3128512",
		`"\n\t\r\0\\\"\'\u00e9\U01F600é"`:           "\n5\n\t\r\x00\\\"'é😀é",
		`"""a"\n""" """"b""" """"""`:                "\n5a\"\\n 5\"b 5",
		"\"\"\"a\nb\"\"\" c":                        "\n5a\nb 1c",
		"a/*\n*/b /* /* */ \n*/ c /**/ d":           "\n1a \n1b \n1c 1d",
		"a // x\n b":                                "\n1a \n1b",
		"<<= >>> ===> -> .>. +?+ #read #any) #send": "\n6<< 6= 6>> 6> 6== 6=> 6-> 6.> 6. 6+? 6+ 6#read 6#any 6) 6#send",
		"->-?->=>":                    "\n6-> 6-? 6-> 6=>",
		"x/y/?z%?w":                   "\n1x 6/ 1y 6/? 1z 6%? 1w",
		"1'a'":                        "\n31 397",
		"_1 elseif isnt ifdef Elseif": "\n1_1 2elseif 2isnt 2ifdef 1Elseif",
		"f(a)?":                       "\n1f 6( 1a 6) 6?",
		"\"é/*\" // é":                "\n5é/*",
	} {
		l, at, e := Scan(text)
		if got := show(l); got != want || e != api.OK || at != 0 {
			t.Errorf("Scan of %q: %q, place %d, error %d, want %q", text, got, at, e, want)
		}
	}
}

func TestScanErrors(t *testing.T) {
	for text, want := range map[string]api.Errno{
		"@": ErrChar, "$": ErrChar, "\\": ErrChar, "\x00": ErrChar, "é": ErrChar, "\xff": ErrChar, "#rea": ErrChar,
		"#readx": ErrChar, "#read_": ErrChar, "#any1": ErrChar, "#": ErrChar, "\f": ErrChar, "\u00a0": ErrChar, "`": ErrChar,
		"/*": ErrComment, "/*/": ErrComment, "/* /* */": ErrComment, "/* \xff */": ErrComment, "// \xff": ErrComment,
		"/* \xff": ErrComment, "// \xe9\n": ErrComment,
		"\"": ErrString, "\"a\nb\"": ErrString, "\"\\q\"": ErrString, "\"\\x80\"": ErrString, "\"\\x4\"": ErrString,
		"\"\\ud800\"": ErrString, "\"\\U110000\"": ErrString, "\"\\u12\"": ErrString, "\"\xff\"": ErrString, "\"\\": ErrString,
		"\"\"\"a\"\"": ErrString, "\"\"\"\xff\"\"\"": ErrString, "''": ErrString, "'''": ErrString, "'ab'": ErrString,
		"'a": ErrString, "'": ErrString, "'\n'": ErrString, "'\\xFF'": ErrString, "'\xff'": ErrString, "'\\": ErrString,
		"\"\\X41\"": ErrString, "\"\\\n\"": ErrString,
		"0x": ErrNumber, "0xg": ErrNumber, "0b": ErrNumber, "0b2": ErrNumber, "0b12": ErrNumber, "0X1": ErrNumber, "0x_1": ErrNumber,
		"1_": ErrNumber, "1__0": ErrNumber, "1x": ErrNumber, "1e": ErrNumber, "1e+": ErrNumber, "1e_5": ErrNumber, "1_.5": ErrNumber,
		"1.5_": ErrNumber, "1.5x": ErrNumber, "1.5e": ErrNumber, "1_e5": ErrNumber, "0b1e5": ErrNumber, "0b1_2": ErrNumber,
		"00x1": ErrNumber, "1e5x": ErrNumber, "'a'b": ErrNumber, "'a'_": ErrNumber, "'a'1": ErrNumber, "0x1_": ErrNumber,
		"340282366920938463463374607431768211456":   ErrNumber,
		"0x100000000000000000000000000000000":       ErrNumber,
		"99999999999999999999999999999999999999999": ErrNumber,
	} {
		for _, head := range []string{"", "x ", "let\n/* a */ ", "\"é\" "} {
			l, at, e := Scan(head + text)
			if len(l) != 0 || at != len(head) || e != want {
				t.Errorf("Scan of %q: %v, place %d, error %d, want %d, %d", head+text, l, at, e, len(head), want)
			}
		}
	}
	long := strings.Repeat(" ", api.MaxSource)
	if _, at, e := Scan(long); at != 0 || e != api.OK {
		t.Errorf("the longest text: %d, error %d", at, e)
	}
	if _, at, e := Scan(long + "@"); at != 0 || e != api.ErrLarge {
		t.Errorf("too long a text: %d, error %d", at, e)
	}
}

func TestText(t *testing.T) {
	first := Token{Ident, "a", 0, true}
	for _, x := range []Token{
		{0, "a", 0, false}, {7, "a", 0, false}, {-1, "a", 0, false}, {Ident, "", 0, false}, {Ident, "let", 0, false},
		{Ident, "a b", 0, false}, {Ident, "a ", 0, false}, {Ident, "1a", 0, false}, {Ident, "é", 0, false}, {Ident, "a'b", 0, false},
		{Keyword, "a", 0, false}, {Keyword, "", 0, false}, {Keyword, "Let", 0, false}, {Int, "", 0, false}, {Int, "01", 0, false},
		{Int, "-1", 0, false}, {Int, "0x1", 0, false}, {Int, "'a'", 0, false}, {Int, "1_0", 0, false},
		{Int, "340282366920938463463374607431768211456", 0, false}, {Float, "1", 0, false}, {Float, "1E5", 0, false},
		{Float, "1_0.5", 0, false}, {Float, "1.", 0, false}, {Float, ".5", 0, false}, {Float, "-1.5", 0, false}, {Float, "1.5 ", 0, false},
		{String, "\xff", 0, false}, {Symbol, "", 0, false}, {Symbol, "@", 0, false}, {Symbol, "==>", 0, false}, {Symbol, "#rea", 0, false},
		{Symbol, "//", 0, false}, {Symbol, "let", 0, false},
	} {
		if s, e := Text([]Token{first, x}); s != "" || e != api.ErrForm {
			t.Errorf("Text of %v: %q, error %d", x, s, e)
		}
	}
	if _, e := Text([]Token{{Ident, "a", 0, false}}); e != api.ErrForm {
		t.Errorf("a first token without Line: error %d", e)
	}
	l := []Token{first, {String, "x\n\"", 9, false}, {Float, "1.5e+7", 0, true}, {Symbol, "#any", 0, false}, {Keyword, "if", 0, false}}
	if s, e := Text(l); e != api.OK || s != "a \"x\\n\\\"\"\n1.5e+7 #any if" {
		t.Errorf("Text: %q, error %d", s, e)
	}
	if s, e := Text(nil); s != "" || e != api.OK {
		t.Errorf("Text of none: %q, error %d", s, e)
	}
	long := Token{Ident, strings.Repeat("a", api.MaxSource), 0, true}
	if s, e := Text([]Token{long}); e != api.OK || len(s) != api.MaxSource {
		t.Errorf("the longest text: error %d", e)
	}
	for _, l := range [][]Token{{long, first}, {first, long}, {long, first, {0, "", 0, false}}} {
		if _, e := Text(l); e != api.ErrLarge {
			t.Errorf("too long a text: error %d", e)
		}
	}
	if _, e := Text([]Token{{0, "", 0, true}, long, long}); e != api.ErrForm {
		t.Errorf("the first token decides: error %d", e)
	}
}

func TestLists(t *testing.T) {
	k, s := Keywords(), Symbols()
	if len(k) != 51 || k[0] != "actor" || k[50] != "xor" || !slices.IsSorted(k) {
		t.Errorf("keywords: %v", k)
	}
	want := "<< >> == != <= >= => -> .> +? -? *? /? %? #read #send #share #alias #any ( ) [ ] { } , . : ; ? = < > + - * / % | & ^ ! ~"
	if strings.Join(s, " ") != want {
		t.Errorf("symbols: %v", s)
	}
	for _, w := range k {
		if l, _, e := Scan(w); e != api.OK || len(l) != 1 || l[0].Kind != Keyword || IsIdent(w) {
			t.Errorf("%s: %v, error %d", w, l, e)
		}
	}
	for _, w := range s {
		if l, _, e := Scan(w); e != api.OK || len(l) != 1 || l[0].Kind != Symbol || l[0].Text != w {
			t.Errorf("%s: %v, error %d", w, l, e)
		}
	}
	k[0] = "changed"
	if Keywords()[0] != "actor" {
		t.Error("a result is no memory of the package")
	}
}

func TestIsIdent(t *testing.T) {
	long := strings.Repeat("a", api.MaxName)
	for s, want := range map[string]bool{
		"a": true, "_": true, "A1_": true, "x''": true, "let'": true, long: true,
		"": false, "1a": false, "'": false, "a'b": false, "let": false, "é": false, "a ": false, long + "a": false, "a-": false,
	} {
		if IsIdent(s) != want {
			t.Errorf("IsIdent(%q) is %v", s, !want)
		}
	}
}

func TestQuote(t *testing.T) {
	for s, want := range map[string]string{
		"": `""`, "a'b": `"a'b"`, "\n\t\r\x00\"\\": `"\n\t\r\0\"\\"`, "\x01\x1f\x7f\x0b": `"\x01\x1F\x7F\x0B"`, "é😀\u0085": "\"é😀\u0085\"", "~ ": `"~ "`,
	} {
		if q, e := Quote(s); e != api.OK || q != want {
			t.Errorf("Quote(%q): %s, error %d", s, q, e)
		}
	}
	for _, s := range []string{"\xff", "a\xe9", "\xed\xa0\x80"} {
		if q, e := Quote(s); q != "" || e != api.ErrForm {
			t.Errorf("Quote(%q): %s, error %d", s, q, e)
		}
	}
	r := rand.New(rand.NewSource(1))
	for range 2000 {
		var s []rune
		for range r.Intn(20) {
			s = append(s, []rune{rune(r.Intn(130)), 'é', 0x10ffff, 0xfffd, '"', '\\'}[r.Intn(6)])
		}
		q, _ := Quote(string(s))
		l, at, e := Scan(q)
		if e != api.OK || at != 0 || len(l) != 1 || l[0] != (Token{String, string(s), 0, true}) {
			t.Fatalf("Scan of Quote of %q: %v, error %d", string(s), l, e)
		}
	}
}

// randomTokens returns a list that Text can write.
func randomTokens(r *rand.Rand) []Token {
	var l []Token
	for i := range r.Intn(12) {
		x := Token{1 + r.Intn(6), "", r.Intn(5), r.Intn(3) == 0 || i == 0}
		switch x.Kind {
		case Ident:
			x.Text = []string{"a", "x''", "_", "Foo_1", "let'"}[r.Intn(5)]
		case Keyword:
			x.Text = Keywords()[r.Intn(51)]
		case Int:
			x.Text = []string{"0", "7", "340282366920938463463374607431768211455"}[r.Intn(3)]
		case Float:
			x.Text = []string{"1.5", "00.10e-07", "1e5", "2e+9"}[r.Intn(4)]
		case String:
			x.Text = []string{"", "a\nb", "\"\\'é\x00", "//"}[r.Intn(4)]
		case Symbol:
			s := Symbols()
			x.Text = s[r.Intn(len(s))]
		}
		l = append(l, x)
	}
	return l
}

// TestThereAndBack: P1.2 to P1.4.
func TestThereAndBack(t *testing.T) {
	r := rand.New(rand.NewSource(2))
	same := func(a, b []Token, line bool) bool {
		return slices.EqualFunc(a, b, func(a, b Token) bool {
			return a.Kind == b.Kind && a.Text == b.Text && (!line || a.Line == b.Line)
		})
	}
	for range 3000 {
		l := randomTokens(r)
		s, e := Text(l)
		if e != api.OK {
			t.Fatalf("Text of %v: error %d", l, e)
		}
		m, _, e := Scan(s)
		if e != api.OK || !same(l, m, true) {
			t.Fatalf("%v became %v by %q, error %d", l, m, s, e)
		}
		if len(m) == 0 {
			continue
		}
		i := r.Intn(len(m))
		at := m[i].At
		if i > 0 && at <= m[i-1].At {
			t.Fatalf("places do not ascend: %v", m)
		}
		cut, _, e := Scan(s[:at])
		if e != api.OK || !slices.Equal(cut, m[:i]) {
			t.Fatalf("%q, cut at %d, has %v", s, at, cut)
		}
		blank := []string{" ", "\t", "\r", "\n", "/* /**/ */", "// x\n"}[r.Intn(6)]
		moved, _, e := Scan(s[:at] + blank + s[at:])
		if e != api.OK || !same(m, moved, false) || moved[i].At != at+len(blank) {
			t.Fatalf("%q with %q at %d has %v, error %d", s, blank, at, moved, e)
		}
	}
}

// TestAnyBytes: every text is scanned, or has an error at a place in it.
func TestAnyBytes(t *testing.T) {
	r := rand.New(rand.NewSource(3))
	const bytes = "ab01_'\"\\/*\n .#xeE+-?<>=|é\xff{}u"
	for range 20000 {
		var s []byte
		for range r.Intn(14) {
			s = append(s, bytes[r.Intn(len(bytes))])
		}
		l, at, e := Scan(string(s))
		again, at2, e2 := Scan(string(s))
		if !slices.Equal(l, again) || at != at2 || e != e2 {
			t.Fatalf("%q has two results", s)
		}
		if e != api.OK && (len(l) > 0 || at < 0 || at >= len(s)) || e == api.OK && at != 0 {
			t.Fatalf("%q: %v, place %d, error %d", s, l, at, e)
		}
		if e != api.OK {
			if _, _, e := Scan(string(s[:at])); e != api.OK {
				t.Fatalf("%q has an error ahead of %d", s, at)
			}
		}
	}
}
