package ssa_test

import (
	"slices"
	"strconv"
	"strings"
	"testing"

	"hackamore/api"
	"hackamore/samples"
	"hackamore/ssa"
)

// whole is a function with something of everything.
func whole() ssa.Func {
	u8 := api.Type{Kind: api.TypeName, Name: "U8", Cap: api.Val}
	f := ssa.Func{Name: "main.A.m~", Params: []api.Type{u8, {Kind: api.TypeUnion, Args: []api.Type{u8, {Kind: api.TypeName, Name: "a b", Cap: 3, Mark: 2}}}}, Result: u8, Partial: true}
	lit := ssa.Ins{Op: ssa.Const, Result: 2, Type: u8, Lit: api.Value{Kind: 5, Kids: []api.Value{{Kind: 22, Lo: 1<<64 - 1, Hi: 1 << 63}, {Kind: 4, Name: "N.é"}}}}
	stays := text(ssa.Make, 3, "A")
	stays.Flag = true
	spawn := text(ssa.Spawn, 4, "create", 2, 3)
	spawn.Name = "W_1"
	item := ins(ssa.Item, 6, 5)
	item.N = 63
	call := text(ssa.Call, 100000, "m", 0)
	call.Type = u8
	f.Blocks = []ssa.Block{
		block(tries(call, 1, 2), lit, stays, spawn, ins(ssa.Tuple, 5, 4, 3, 2), item, text(ssa.Text, 7, "a\n ~\\"), text(ssa.Text, 8, "")),
		block(branch(100000, 2, 3)),
		block(ssa.End{Kind: ssa.Stuck}),
		block(ssa.End{Kind: ssa.Error}),
	}
	return f
}

const wholeText = `func xmain.A.m~7e 1:xU8:4:0 1 1:xU8:4:0 3:x:0:0(1:xU8:4:0,1:xa~20b:3:2)
block
const 2 1:xU8:4:0 - x x 5:0:0:x(22:18446744073709551615:9223372036854775808:x,4:0:0:xN.~c3~a9) 0 0
make 3 0:x:0:0 - xA x 0:0:0:x 0 1
spawn 4 0:x:0:0 2,3 xcreate xW_1 0:0:0:x 0 0
tuple 5 0:x:0:0 4,3,2 x x 0:0:0:x 0 0
item 6 0:x:0:0 5 x x 0:0:0:x 63 0
text 7 0:x:0:0 - xa~0a~20~7e~5c x 0:0:0:x 0 0
text 8 0:x:0:0 - x x 0:0:0:x 0 0
try - 1,2 call 100000 1:xU8:4:0 0 xm x 0:0:0:x 0 0
block
branch 100000 2,3
block
stuck - -
block
error - -
`

// TestText: a text by hand, and its functions.
func TestText(t *testing.T) {
	s, e := ssa.Print([]ssa.Func{whole()})
	if e != api.OK || s != wholeText {
		t.Errorf("error %d\n%s", e, s)
	}
	l, n, e := ssa.Parse(wholeText + wholeText)
	if e != api.OK || n != 0 || !alike(l, []ssa.Func{whole(), whole()}) {
		t.Errorf("error %d in the line %d", e, n)
	}
	if s, e := ssa.Print(nil); e != api.OK || s != "" {
		t.Errorf("no functions: %q", s)
	}
	if l, n, e := ssa.Parse(""); e != api.OK || n != 0 || len(l) != 0 {
		t.Errorf("no text: %v", l)
	}
	ops := []string{"const", "text", "phi", "load", "store", "get", "set", "make", "call", "direct", "native", "spawn", "send", "tuple", "item", "is", "fits"}
	for i, op := range ops {
		s, _ := ssa.Print([]ssa.Func{{Blocks: []ssa.Block{{Ins: []ssa.Ins{opIns(i + 1)}, End: ssa.End{Kind: ssa.Stuck}}, {Ins: []ssa.Ins{opIns(3)}, End: ssa.End{Kind: ssa.Stuck}}}}})
		if op != "phi" && !strings.Contains(s, "\n"+op+" 7 ") {
			t.Errorf("%s: %s", op, s)
		}
	}
}

// opIns returns an instruction with an operation, that has the form.
func opIns(op int) ssa.Ins {
	x := ssa.Ins{Op: op, Result: 7}
	switch op {
	case ssa.Phi:
		x.Result = 9
	case ssa.Load, ssa.Make, ssa.Direct, ssa.Native, ssa.Text:
		x.Text = "a"
	case ssa.Spawn:
		x.Text, x.Name = "a", "b"
	case ssa.Store, ssa.Get, ssa.Call, ssa.Send:
		x.Text, x.Args = "a", []int{1}
	case ssa.Set:
		x.Text, x.Args = "a", []int{1, 1}
	case ssa.Tuple, ssa.Is:
		x.Args = []int{1, 1}
	case ssa.Item, ssa.Fits:
		x.Args = []int{1}
	}
	return x
}

// TestTextLaws: Parse of Print are the functions, Print of Parse is the text (P19.7).
func TestTextLaws(t *testing.T) {
	all := made(t, 400, 10, true)
	for i := range all {
		l := all[i:min(i+i%4, len(all))]
		s, e := ssa.Print(l)
		if e != api.OK {
			t.Fatalf("%d: error %d", i, e)
		}
		back, n, e := ssa.Parse(s)
		if e != api.OK || n != 0 || !alike(back, l) {
			t.Fatalf("%d: error %d in the line %d", i, e, n)
		}
	}
}

// TestTextChanges: a text in which bytes were changed is none, or the text of its functions.
func TestTextChanges(t *testing.T) {
	m := samples.New(197)
	count := map[api.Errno]int{}
	for range 6000 {
		b := []byte(wholeText)
		for range 1 + m.Below(2) {
			i := m.Below(len(b))
			switch c := "0123456789abcdefx~_.:(),- \nAZ\xffé"; m.Below(3) {
			case 0:
				b[i] = c[m.Below(len(c))]
			case 1:
				b = slices.Delete(b, i, i+1)
			case 2:
				b = slices.Insert(b, i, c[m.Below(len(c))])
			}
		}
		l, n, e := ssa.Parse(string(b))
		count[e]++
		if (e == ssa.ErrLine) != (n > 0) || e != api.OK && len(l) > 0 || n > 17 {
			t.Fatalf("error %d in the line %d", e, n)
		}
		if e != api.OK {
			continue
		}
		if s, e := ssa.Print(l); e != api.OK || s != string(b) {
			t.Fatalf("Print of Parse, error %d:\n%s\n%s", e, s, b)
		}
	}
	if count[api.OK] < 200 || count[ssa.ErrLine] < 1000 || len(count) < 5 {
		t.Errorf("errors %v", count)
	}
}

// TestLines: the line of the first error.
func TestLines(t *testing.T) {
	lines := strings.SplitAfter(strings.TrimSuffix(wholeText, "\n"), "\n")
	lines[len(lines)-1] += "\n"
	for i := range lines {
		l := slices.Clone(lines)
		l[i] = "x" + l[i]
		wrongLine(t, strings.Join(l, ""), i+1)
		l[i] = " " + lines[i]
		wrongLine(t, strings.Join(l, ""), i+1)
		l[i] = strings.Replace(lines[i], "\n", " \n", 1)
		wrongLine(t, strings.Join(l, ""), i+1)
		l[i] = "\n"
		wrongLine(t, strings.Join(l, ""), i+1)
	}
	for cut, want := range map[int]int{1: 2, 2: 3, 9: 10, 11: 12, 13: 14, 15: 16} {
		wrongLine(t, strings.Join(lines[:cut], ""), want)
	}
	wrongLine(t, strings.TrimSuffix(wholeText, "\n"), 16)
	wrongLine(t, "func x 0:x:0:0 0\nfunc x 0:x:0:0 0\n", 2)
	wrongLine(t, "block\n", 1)
	wrongLine(t, "stuck - -\n", 1)
	const head = "func x 0:x:0:0 0\nblock\n"
	wrongLine(t, head+"block\n", 3)
	wrongLine(t, head+"func x 0:x:0:0 0\n", 3)
	wrongLine(t, head+"stuck - -\nstuck - -\n", 4)
	wrongLine(t, head+"stuck - -\nconst 0 0:x:0:0 - x x 0:0:0:x 0 0\n", 4)
	for i, line := range []string{
		"stuck", "stuck -", "stuck - - -", "return 01 -", "return +1 -", "return 1,, -", "return ,1 -", "return 1, -", "return  -", "return 1000000001 -", "return -1 -", "jump -  1", "try - 1,2", "try - 1,2 stuck - -",
		"try - 1,2 call 1 0:x:0:0 0 xm x 0:0:0:x 0", "const 0 0:x:0:0 - x x 0:0:0:x 0 2", "const 0 0:x:0:0 - x x 0:0:0:x 0 00", "const 0 0:x:0 - x x 0:0:0:x 0 0", "const 0 0:x:0:0() - x x 0:0:0:x 0 0",
		"const 0 0:x:0:0(0:x:0:0 - x x 0:0:0:x 0 0", "const 0 0:x:0:0(0:x:0:0,) - x x 0:0:0:x 0 0", "const 0 0:x:0:0 - a x 0:0:0:x 0 0", "const 0 0:x:0:0 - x~41 x 0:0:0:x 0 0", "const 0 0:x:0:0 - x~0A x 0:0:0:x 0 0",
		"const 0 0:x:0:0 - x~0 x 0:0:0:x 0 0", "const 0 0:x:0:0 - x~ x 0:0:0:x 0 0", "const 0 0:x:0:0 - x- x 0:0:0:x 0 0", "const 0 0:x:0:0 - x x 0:0:18446744073709551616:x 0 0", "const 0 0:x:0:0 - x x 0:00:0:x 0 0",
		"const 0 1000000001:x:0:0 - x x 0:0:0:x 0 0", "const 0 0:x:0:0 - x x 0:0:0 0 0", "const 0 0:x:0:0 - x x 0:0:0:x 0 0 0", "const 0 0:x:0:0x - x x 0:0:0:x 0 0", "Const 0 0:x:0:0 - x x 0:0:0:x 0 0",
		"const 0 " + strings.Repeat("3:x:0:0(", 20) + "1:x:0:0" + strings.Repeat(")", 20) + " - x x 0:0:0:x 0 0", "const 0 0:x:0:0 - x x " + strings.Repeat("5:0:0:x(", 20) + "1:0:0:x" + strings.Repeat(")", 20) + " 0 0",
	} {
		if _, n, e := ssa.Parse(head + line + "\nstuck - -\n"); n != 3 || e != ssa.ErrLine {
			t.Errorf("%d: error %d in the line %d", i, e, n)
		}
	}
}

func wrongLine(t *testing.T, s string, want int) {
	t.Helper()
	if l, n, e := ssa.Parse(s); n != want || e != ssa.ErrLine || len(l) > 0 {
		t.Errorf("error %d in the line %d, not %d:\n%s", e, n, want, s)
	}
}

// TestTextErrors: the errors of Print, and of Parse behind the lines.
func TestTextErrors(t *testing.T) {
	typed := func(typ api.Type) ssa.Func { f := one(); f.Blocks[0].Ins[0].Type = typ; return f }
	named := func(s string) api.Type { return api.Type{Name: s} }
	wide := api.Type{Args: make([]api.Type, 99)}
	deep := api.Type{}
	for range 19 {
		deep = api.Type{Args: []api.Type{deep}}
	}
	valued := func(v api.Value) ssa.Func { f := one(); f.Blocks[0].Ins[0].Lit = v; return f }
	tried := function(block(tries(text(ssa.Call, 1, "m", 0), 1, 2)), block(returns(0)), block(returns(0)))
	tried.Blocks[0].End.Call.Type.Cap = 100
	param, result := one(), one()
	param.Params[0].Mark, result.Result.Kind = -1, 100
	for i, c := range []struct {
		f    ssa.Func
		want api.Errno
	}{
		{typed(wide), api.OK}, {typed(api.Type{Args: []api.Type{wide}}), api.ErrForm}, {typed(deep), api.OK}, {typed(api.Type{Args: []api.Type{deep}}), api.ErrForm}, {typed(api.Type{Kind: 99, Cap: 99, Mark: 99}), api.OK},
		{typed(api.Type{Kind: 100}), api.ErrForm}, {typed(api.Type{Kind: -1}), api.ErrForm}, {typed(api.Type{Cap: 100}), api.ErrForm}, {typed(api.Type{Mark: 100}), api.ErrForm}, {typed(api.Type{Args: []api.Type{{Cap: -1}}}), api.ErrForm},
		{typed(named(strings.Repeat("x", 200))), api.OK}, {typed(named(strings.Repeat("x", 201))), api.ErrForm}, {typed(named("\xff")), api.ErrForm}, {tried, api.ErrForm}, {param, api.ErrForm}, {result, api.ErrForm},
		{valued(api.Value{Kind: 99, Name: strings.Repeat("\xff", 300)}), api.OK}, {valued(api.Value{Kind: 100}), api.ErrForm}, {valued(api.Value{Kind: -1}), api.ErrForm}, {valued(api.Value{Kids: []api.Value{{Kind: 100}}}), api.ErrForm},
		{ssa.Func{}, api.ErrSize}, {function(block(jump(3))), ssa.ErrBlock}, {function(block(returns(9))), api.OK},
	} {
		s, e := ssa.Print([]ssa.Func{one(), c.f})
		if e != c.want || e != api.OK && s != "" {
			t.Errorf("%d: error %d, not %d", i, e, c.want)
		}
		if l, n, e2 := ssa.Parse(s); e == api.OK && (e2 != api.OK || n != 0 || !alike(l, []ssa.Func{one(), c.f})) {
			t.Errorf("%d: Parse: error %d in the line %d", i, e2, n)
		}
	}
	if _, e := ssa.Print([]ssa.Func{typed(api.Type{Kind: 100}), {}}); e != api.ErrForm {
		t.Errorf("two functions with errors: %d", e)
	}
	const body = "\nblock\nstuck - -\n"
	for i, c := range []struct {
		s    string
		want api.Errno
	}{
		{strings.Repeat("func x 0:x:0:0 0"+body, 500), api.OK}, {strings.Repeat("func x 0:x:0:0 0"+body, 501), api.ErrSize}, {"func x~ff 0:x:0:0 0" + body, api.ErrForm}, {"func x 100:x:0:0 0" + body, api.ErrForm},
		{"func x 0:x:0:0 0" + strings.Repeat(" 0:x:0:0", 65) + body, api.ErrSize}, {"func x 0:x:0:0 0\nblock\nstuck 1 -\n", api.ErrSize}, {"func x 0:x:0:0 0\nblock\njump - 0\n", ssa.ErrBlock},
		{"func x 0:x:0:0 0\nblock\nreturn 1000000000 -\n", api.ErrRange}, {"func x 0:x:0:0 0\nblock\ntry - 1,2 const 1 0:x:0:0 - x x 0:0:0:x 0 0\n", api.ErrArg}, {strings.Repeat("x", 1000001), api.ErrSize},
		{"func x 0:x:0:0 0\nblock\nconst 0 0:x:0:0 - x x " + strings.Repeat("5:0:0:x(", 19) + "1:0:0:x" + strings.Repeat(")", 19) + " 0 0\nstuck - -\n", api.ErrForm},
	} {
		if l, n, e := ssa.Parse(c.s); e != c.want || n != 0 || (e != api.OK) != (len(l) == 0) {
			t.Errorf("text %d: error %d in the line %d, not %d", i, e, n, c.want)
		}
	}
	if l, n, e := ssa.Parse(strings.Repeat("x", 1000000)); e != ssa.ErrLine || n != 1 || len(l) > 0 {
		t.Errorf("a line of 10^6 bytes: error %d", e)
	}
}

// TestLarge: a text of 10^6 bytes, and of one more.
func TestLarge(t *testing.T) {
	f := function(block(ssa.End{Kind: ssa.Stuck}))
	add := func(s string) {
		f.Blocks[0].Ins = append(f.Blocks[0].Ins, text(ssa.Text, 1000+len(f.Blocks[0].Ins), s))
	}
	for range 240 {
		add(strings.Repeat("x", 4000))
	}
	s, e := ssa.Print([]ssa.Func{f})
	for e == api.OK && len(s) < 1000000 {
		add("")
		line := len("text 1000 0:x:0:0 - x x 0:0:0:x 0 0\n")
		left := 1000000 - len(s) - line
		f.Blocks[0].Ins[len(f.Blocks[0].Ins)-1].Text = strings.Repeat("x", max(0, min(4000, left)))
		if left > 4000 && left < 4000+2*line {
			f.Blocks[0].Ins[len(f.Blocks[0].Ins)-1].Text = strings.Repeat("x", 3000)
		}
		s, e = ssa.Print([]ssa.Func{f})
	}
	if e != api.OK || len(s) != 1000000 {
		t.Fatalf("%d bytes, error %d", len(s), e)
	}
	if l, n, e := ssa.Parse(s); e != api.OK || n != 0 || !alike(l, []ssa.Func{f}) {
		t.Errorf("Parse: error %d in the line %d", e, n)
	}
	f.Name += "y"
	if s, e := ssa.Print([]ssa.Func{f}); e != api.ErrLarge || s != "" {
		t.Errorf("a byte more: error %d", e)
	}
	var l []ssa.Func
	for i := range 500 {
		g := f
		g.Name = strconv.Itoa(i)
		l = append(l, g)
	}
	if s, e := ssa.Print(l); e != api.ErrLarge || s != "" {
		t.Errorf("500 functions: error %d", e)
	}
	l[499].Name = "\xff"
	if _, e := ssa.Print(l); e != api.ErrForm {
		t.Errorf("500 functions, the last one with an error: %d", e)
	}
}
