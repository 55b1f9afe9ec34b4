package witness

import (
	"slices"
	"strings"

	"hackamore/api"
	"hackamore/blocks"
	"hackamore/num"
	"hackamore/optimize"
	"hackamore/ssa"
	"hackamore/walk"
)

// fields says of the kinds of steps which fields they have, beside Func and A.
var fields = [...]struct{ b, lit, text bool }{
	optimize.StepCopy:   {b: true},
	optimize.StepFold:   {lit: true},
	optimize.StepCommon: {b: true},
	optimize.StepDrop:   {},
	optimize.StepBranch: {b: true},
	optimize.StepJoin:   {},
	optimize.StepInline: {},
	optimize.StepDirect: {text: true},
	optimize.StepStack:  {},
	optimize.StepField:  {b: true},
}

// isStep reports whether a step has the form.
func (b *book) isStep(s optimize.Step) bool {
	if s.Kind < 1 || s.Kind > optimize.StepCount || s.Func < 0 || s.Func >= len(b.Funcs) {
		return false
	}
	k := fields[s.Kind]
	return (k.b || s.B == 0) && (k.lit || walk.SameValue(s.Lit, api.Value{})) && (k.text || s.Text == "")
}

// forbidden is the error of a step that may not be done.
type forbidden struct{ code api.Errno }

// Error is the text of the code.
func (e forbidden) Error() string { return e.code.Error() }

// must leaves a rule that does not hold.
func must(holds bool) {
	if !holds {
		panic(forbidden{ErrRule})
	}
}

// page is a function that a step changes.
type page struct {
	*book
	f *ssa.Func
}

// apply does a step; with an error the book is of no use any more.
func (b *book) apply(s optimize.Step) (e api.Errno) {
	if !b.isStep(s) {
		return ErrStep
	}
	defer func() {
		switch r := recover().(type) {
		case nil:
		case forbidden:
			e = r.code
		default:
			e = ErrRule
		}
	}()
	g := &page{b, &b.Funcs[s.Func]}
	switch s.Kind {
	case optimize.StepCopy:
		g.copyOf(s.A, s.B)
	case optimize.StepFold:
		g.fold(s.A, s.Lit)
	case optimize.StepCommon:
		g.common(s.A, s.B)
	case optimize.StepDrop:
		g.drop(s.A)
	case optimize.StepBranch:
		g.branch(s.A, s.B)
	case optimize.StepJoin:
		g.join(s.A)
	case optimize.StepInline:
		g.inline(s.A)
	case optimize.StepDirect:
		g.direct(s.A, s.Text)
	case optimize.StepStack:
		g.stack(s.A)
	case optimize.StepField:
		g.field(s.A, s.B)
	}
	must(b.isRight(g.f))
	return api.OK
}

// made returns the instruction of a value, and where it stands; nil for what no instruction of a block makes.
func (g *page) made(v int) (*ssa.Ins, blocks.Place) {
	for i := range g.f.Blocks {
		l := g.f.Blocks[i].Ins
		if j := slices.IndexFunc(l, func(x ssa.Ins) bool { return x.Result == v }); j >= 0 {
			return &l[j], blocks.Place{Block: i, At: j}
		}
	}
	return nil, blocks.Place{}
}

// instruction returns the instruction of a value, which has to be there.
func (g *page) instruction(v int) (*ssa.Ins, blocks.Place) {
	x, at := g.made(v)
	must(x != nil)
	return x, at
}

// operand returns the instruction that makes an argument, if it has an operation; otherwise nil.
func (g *page) operand(v, op int) *ssa.Ins {
	x, _ := g.made(v)
	if x == nil || x.Op != op {
		return nil
	}
	return x
}

// replace puts a value in the place of another one.
func (g *page) replace(a, b int) {
	for l := range blocks.Lists(g.f) {
		for i, v := range *l {
			if v == a {
				(*l)[i] = b
			}
		}
	}
}

// remove takes an instruction out of its block.
func (g *page) remove(at blocks.Place) {
	l := &g.f.Blocks[at.Block].Ins
	*l = slices.Delete(*l, at.At, at.At+1)
}

// count returns how often a value stands among Args.
func (g *page) count(v int) int {
	n := 0
	for l := range blocks.Lists(g.f) {
		n += among(*l, v)
	}
	return n
}

func among(l []int, v int) int {
	n := 0
	for _, w := range l {
		if w == v {
			n++
		}
	}
	return n
}

// copyOf: a value is another one.
func (g *page) copyOf(a, b int) {
	must(a != b)
	x, _ := g.instruction(a)
	switch x.Op {
	case ssa.Phi:
		must(among(x.Args, b) > 0 && among(x.Args, a)+among(x.Args, b) == len(x.Args))
	case ssa.Item:
		t := g.operand(x.Args[0], ssa.Tuple)
		must(t != nil && x.N < len(t.Args) && t.Args[x.N] == b)
	default:
		must(false)
	}
	g.replace(a, b)
}

// fold: an instruction over constants is a constant.
func (g *page) fold(a int, lit api.Value) {
	x, _ := g.instruction(a)
	must(x.Op == ssa.Native || x.Op == ssa.Is)
	var lits []api.Value
	for _, v := range x.Args {
		c := g.operand(v, ssa.Const)
		must(c != nil)
		lits = append(lits, c.Lit)
	}
	if x.Op == ssa.Is {
		must(walk.SameValue(lit, truth(walk.SameValue(lits[0], lits[1]))))
	} else {
		typ, method, ok := strings.Cut(x.Text, ".")
		v, raised, e := num.Call(typ, method, lits)
		must(ok && e == api.OK && !raised && walk.SameValue(lit, v))
	}
	*x = ssa.Ins{Op: ssa.Const, Result: x.Result, Type: x.Type, Lit: walk.Value(lit)}
}

func truth(is bool) api.Value {
	v := api.Value{Kind: api.ValBool}
	if is {
		v.Lo = 1
	}
	return v
}

// common: two instructions give the same.
func (g *page) common(a, b int) {
	must(a != b)
	x, at := g.instruction(a)
	y, other := g.instruction(b)
	must(Pure(*x) && Pure(*y) || x.Op == ssa.Phi && y.Op == ssa.Phi && at.Block == other.Block)
	must(isAlike(x, y))
	g.remove(at)
	g.replace(a, b)
}

// isAlike reports whether two instructions are equal but for the Result.
func isAlike(x, y *ssa.Ins) bool {
	return x.Op == y.Op && x.Text == y.Text && x.Name == y.Name && x.N == y.N && x.Flag == y.Flag && slices.Equal(x.Args, y.Args) &&
		walk.SameType(x.Type, y.Type) && walk.SameValue(x.Lit, y.Lit)
}

// drop: nobody needs a value.
func (g *page) drop(a int) {
	x, at := g.instruction(a)
	switch x.Op {
	case ssa.Text, ssa.Phi, ssa.Load, ssa.Get, ssa.Make:
	default:
		must(Pure(*x))
	}
	must(g.count(a) == among(x.Args, a))
	g.remove(at)
}

// direct: a call can reach one function alone.
func (g *page) direct(a int, text string) {
	var call *ssa.Ins
	for _, x := range blocks.All(g.f) {
		if x.Result == a {
			call = x
		}
	}
	must(call != nil && call.Op == ssa.Call)
	l, e := g.targets(g.typ(call.Args[0]), call.Text)
	must(e == api.OK && len(l) == 1 && l[0] == text)
	call.Op, call.Text = ssa.Direct, text
}

// typ returns the type of a value: that of the parameter, or of what makes it.
func (g *page) typ(v int) api.Type {
	if v < len(g.f.Params) {
		return g.f.Params[v]
	}
	for _, x := range blocks.All(g.f) {
		if x.Result == v {
			return x.Type
		}
	}
	return api.Type{}
}

// stack: an object may stay on the stack.
func (g *page) stack(a int) {
	x, _ := g.instruction(a)
	must(x.Op == ssa.Make && !x.Flag && !g.escapes(a))
	x.Flag = true
}

// escapes reports whether an object may be met elsewhere.
func (g *page) escapes(v int) bool {
	kept := 0
	for _, x := range blocks.All(g.f) {
		switch x.Op {
		case ssa.Get, ssa.Set:
			kept += among(x.Args[:1], v)
		case ssa.Is, ssa.Fits:
			kept += among(x.Args, v)
		}
	}
	return kept < g.count(v)
}

// field: a field has what was written, or read, ahead.
func (g *page) field(a, b int) {
	x, at := g.instruction(a)
	must(x.Op == ssa.Get)
	object := x.Args[0]
	must(g.operand(object, ssa.Make) != nil && !g.escapes(object))
	for _, y := range slices.Backward(g.f.Blocks[at.Block].Ins[:at.At]) {
		if y.Op != ssa.Get && y.Op != ssa.Set || y.Text != x.Text || y.Args[0] != object {
			continue
		}
		must(y.Op == ssa.Set && y.Args[1] == b || y.Op == ssa.Get && y.Result == b)
		g.remove(at)
		g.replace(a, b)
		return
	}
	must(false)
}
