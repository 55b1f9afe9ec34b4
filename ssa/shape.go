package ssa

import (
	"iter"
	"slices"
	"unicode/utf8"

	"hackamore/api"
	"hackamore/walk"
)

// Limits of functions.
const (
	maxFuncs  = 500
	maxParams = 64
	maxBlocks = 400
	maxIns    = 4000
	maxValue  = 100000
	maxArgs   = 64
	maxWays   = 400 // arguments of a phi
	maxName   = 200
	maxText   = 4000
	maxItem   = 63
	maxKids   = 64
	maxLevels = 8 // of a value in a Lit
)

// operation says of an Op its name, the number of its Args, and which of the other fields it has.
type operation struct {
	name                      string
	least, most               int
	text, entity, lit, n, bit bool
}

var operations = [...]operation{
	{},
	{name: "const", lit: true},
	{name: "text", text: true},
	{name: "phi", most: maxWays},
	{name: "load", text: true},
	{name: "store", least: 1, most: 1, text: true},
	{name: "get", least: 1, most: 1, text: true},
	{name: "set", least: 2, most: 2, text: true},
	{name: "make", text: true, bit: true},
	{name: "call", least: 1, most: maxArgs, text: true},
	{name: "direct", most: maxArgs, text: true},
	{name: "native", most: maxArgs, text: true},
	{name: "spawn", most: maxArgs, text: true, entity: true},
	{name: "send", least: 1, most: maxArgs, text: true},
	{name: "tuple", least: 2, most: maxArgs},
	{name: "item", least: 1, most: 1, n: true},
	{name: "is", least: 2, most: 2},
	{name: "fits", least: 1, most: 1},
}

// ending says of a Kind of ends its name, and the numbers of Args and To.
type ending struct {
	name     string
	args, to int
}

var endings = [...]ending{
	{},
	{"jump", 0, 1},
	{"branch", 1, 2},
	{"return", 1, 0},
	{"error", 0, 0},
	{"try", 0, 2},
	{"stuck", 0, 0},
}

// all hands on the instructions of a function with their places, those of ends last in their blocks.
func (f *Func) all() iter.Seq2[Fault, *Ins] {
	return func(yield func(Fault, *Ins) bool) {
		for i := range f.Blocks {
			b := &f.Blocks[i]
			for j := range b.Ins {
				if !yield(Fault{Block: i, At: j}, &b.Ins[j]) {
					return
				}
			}
			if b.End.Kind == Try && !yield(Fault{Block: i, At: len(b.Ins)}, &b.End.Call) {
				return
			}
		}
	}
}

// shaper goes through a function, and knows the values that were made.
type shaper struct {
	f    *Func
	made map[int]bool
}

// shape returns the error of the shape of a function, and where it is.
func shape(f *Func) (Fault, api.Errno) {
	if len(f.Params) > maxParams || len(f.Blocks) < 1 || len(f.Blocks) > maxBlocks {
		return Fault{}, api.ErrSize
	}
	count := 0
	for _, b := range f.Blocks {
		count += len(b.Ins)
		if b.End.Kind == Try {
			count++
		}
	}
	if count > maxIns {
		return Fault{}, api.ErrSize
	}
	if !isName(f.Name) {
		return Fault{}, api.ErrForm
	}
	s := &shaper{f, make(map[int]bool, count)}
	for i, b := range f.Blocks {
		phis := true
		for j := range b.Ins {
			x := &b.Ins[j]
			phis = phis && x.Op == Phi
			e := s.ins(x)
			if e == api.OK && x.Op == Phi && (!phis || i == 0) {
				e = ErrPhi
			}
			if e != api.OK {
				return Fault{Block: i, At: j}, e
			}
		}
		if e := s.end(&b.End); e != api.OK {
			return Fault{Block: i, At: len(b.Ins)}, e
		}
	}
	return Fault{}, api.OK
}

func isName(s string) bool { return len(s) <= maxName && utf8.ValidString(s) }

// ins returns the error of an instruction by itself; its Result is made then.
func (s *shaper) ins(x *Ins) api.Errno {
	if x.Op < 1 || x.Op > OpCount {
		return api.ErrArg
	}
	o := &operations[x.Op]
	switch {
	case len(x.Args) < o.least || len(x.Args) > o.most:
		return api.ErrSize
	case !o.fits(x):
		return api.ErrForm
	case slices.ContainsFunc(x.Args, isNoValue):
		return api.ErrRange
	case x.Result < len(s.f.Params) || x.Result > maxValue:
		return api.ErrRange
	case s.made[x.Result]:
		return api.ErrTwice
	}
	s.made[x.Result] = true
	return api.OK
}

func isNoValue(v int) bool { return v < 0 || v > maxValue }

// fits reports whether an instruction has the fields that its operation names, and no others.
func (o *operation) fits(x *Ins) bool {
	switch {
	case x.Op == Text:
		if len(x.Text) > maxText || !utf8.ValidString(x.Text) {
			return false
		}
	case o.text != (x.Text != "") || !isName(x.Text):
		return false
	}
	if o.entity != (x.Name != "") || !isName(x.Name) {
		return false
	}
	if x.N < 0 || x.N > maxItem || x.N != 0 && !o.n || x.Flag && !o.bit {
		return false
	}
	if !o.lit {
		return isZeroValue(x.Lit)
	}
	return isLit(x.Lit, 1)
}

// isLit reports whether a value at a level of a Lit is small enough.
func isLit(v api.Value, level int) bool {
	return level <= maxLevels && len(v.Kids) <= maxKids && !slices.ContainsFunc(v.Kids, func(k api.Value) bool { return !isLit(k, level+1) })
}

func isZeroValue(v api.Value) bool {
	return v.Kind == 0 && v.Lo == 0 && v.Hi == 0 && v.Name == "" && len(v.Kids) == 0
}

func isZeroIns(x *Ins) bool {
	return x.Op == 0 && x.Result == 0 && walk.IsZero(x.Type) && len(x.Args) == 0 && x.Text == "" && x.Name == "" && isZeroValue(x.Lit) && x.N == 0 && !x.Flag
}

// end returns the error of an end by itself.
func (s *shaper) end(x *End) api.Errno {
	if x.Kind < Jump || x.Kind > Stuck {
		return api.ErrArg
	}
	k := endings[x.Kind]
	switch {
	case len(x.Args) != k.args || len(x.To) != k.to:
		return api.ErrSize
	case slices.ContainsFunc(x.Args, isNoValue):
		return api.ErrRange
	case x.Kind != Try && !isZeroIns(&x.Call):
		return api.ErrArg
	case x.Kind == Try && x.Call.Op != Call && x.Call.Op != Direct:
		return api.ErrArg
	}
	if x.Kind == Try {
		if e := s.ins(&x.Call); e != api.OK {
			return e
		}
	}
	if slices.ContainsFunc(x.To, func(to int) bool { return to < 1 || to >= len(s.f.Blocks) }) {
		return ErrBlock
	}
	if x.Kind == Try && x.To[0] == x.To[1] {
		return ErrBlock
	}
	return api.OK
}
