package check

import (
	"slices"
	"strconv"

	"hackamore/api"
	"hackamore/types"
	"hackamore/walk"
)

// What the text of an expression is.
const (
	noText  = iota
	anyText // whatever it is
	named   // a name
	perhaps // a name, or no text
	indexed // the index of an element
)

const many = 1<<31 - 1

// shapes says of each operation what its text is, how many types it has, and of which kind (0: any), how many Kids it has
// at least and at most, and, as bits, which of these may be none.
var shapes = [...]struct{ text, types, kind, least, most, open int }{
	api.OpLit:      {anyText, 1, api.TypeName, 0, 0, 0},
	api.OpLocal:    {named, 0, 0, 0, 0, 0},
	api.OpThis:     {noText, 0, 0, 0, 0, 0},
	api.OpGet:      {named, 0, 0, 1, 1, 0},
	api.OpSet:      {named, 0, 0, 2, 2, 0},
	api.OpVar:      {named, 1, 0, 0, 1, 0},
	api.OpLet:      {named, 1, 0, 0, 1, 0},
	api.OpAssign:   {named, 0, 0, 1, 1, 0},
	api.OpConsume:  {named, 0, 0, 0, 0, 0},
	api.OpSeq:      {noText, 0, 0, 0, many, 0},
	api.OpIf:       {noText, 0, 0, 3, 3, 1 << 2},
	api.OpWhile:    {noText, 0, 0, 3, 3, 1 << 2},
	api.OpMatch:    {noText, 0, 0, 2, many, 0},
	api.OpCase:     {perhaps, 1, 0, 2, 2, 1 << 0},
	api.OpTry:      {noText, 0, 0, 3, 3, 1<<1 | 1<<2},
	api.OpError:    {noText, 0, 0, 0, 0, 0},
	api.OpReturn:   {noText, 0, 0, 0, 1, 0},
	api.OpBreak:    {noText, 0, 0, 0, 0, 0},
	api.OpContinue: {noText, 0, 0, 0, 0, 0},
	api.OpCall:     {named, 0, 0, 1, many, 0},
	api.OpNew:      {named, 1, api.TypeName, 0, many, 0},
	api.OpRecover:  {noText, 1, api.TypeSelf, 1, 1, 0},
	api.OpTuple:    {noText, 0, 0, 2, api.MaxList, 0},
	api.OpItem:     {indexed, 0, 0, 1, 1, 0},
	api.OpIs:       {noText, 0, 0, 2, 2, 0},
	api.OpUnit:     {noText, 1, api.TypeName, 0, 0, 0},
}

// Shape returns the path of the first node of an expression that is not as its operation asks, and its error.
func Shape(x api.Expr) ([]int, api.Errno) {
	if !small(x) {
		return nil, api.ErrSize
	}
	if x.Op == 0 {
		return nil, api.OK
	}
	if x.Op == api.OpCase {
		return nil, api.ErrForm
	}
	if path, wrong := misshapen(x, nil); wrong {
		return path, api.ErrForm
	}
	return nil, api.OK
}

// small reports whether an expression is not too large; it looks at no more nodes than may be there.
func small(x api.Expr) bool {
	count := 0
	var fits func(x api.Expr, level int) bool
	fits = func(x api.Expr, level int) bool {
		count++
		if count > api.MaxNodes || level > api.MaxTree {
			return false
		}
		return x.Op == 0 || !slices.ContainsFunc(x.Kids, func(k api.Expr) bool { return !fits(k, level+1) })
	}
	return fits(x, 1)
}

// misshapen returns the path of the first node that is not as it should be, if there is one.
func misshapen(x api.Expr, path []int) ([]int, bool) {
	if x.Op == 0 {
		return nil, false
	}
	if !formed(x) {
		return path, true
	}
	for i, k := range x.Kids {
		if at, wrong := misshapen(k, longer(path, i)); wrong {
			return at, true
		}
	}
	return nil, false
}

// longer returns the path of a kid.
func longer(path []int, i int) []int { return append(slices.Clip(path), i) }

// formed reports whether an expression by itself is as its operation asks.
func formed(x api.Expr) bool {
	if x.Op < api.OpLit || x.Op > api.OpLast {
		return false
	}
	s := shapes[x.Op]
	if !isText(x.Text, s.text) || len(x.Types) != s.types || len(x.Kids) < s.least || len(x.Kids) > s.most {
		return false
	}
	for _, t := range x.Types {
		if types.Check(t) != api.OK || s.kind != 0 && t.Kind != s.kind {
			return false
		}
	}
	for i, k := range x.Kids {
		isCase := x.Op == api.OpMatch && i > 0
		if k.Op == 0 && s.open>>i&1 == 0 || isCase != (k.Op == api.OpCase) && k.Op != 0 {
			return false
		}
	}
	return true
}

// isText reports whether the text of an expression is as it should be.
func isText(s string, kind int) bool {
	switch kind {
	case anyText:
		return true
	case named:
		return s != "" && len(s) <= api.MaxName
	case perhaps:
		return len(s) <= api.MaxName
	case indexed:
		n, e := strconv.Atoi(s)
		return e == nil && n >= 0 && n < api.MaxList && strconv.Itoa(n) == s
	}
	return s == ""
}

// isEven reports whether all parts of each intersection in a type have one capability and one mark.
func isEven(t api.Type) bool {
	for n := range walk.Nodes(t) {
		if n.Kind == api.TypeBoth && !isAlike(n) {
			return false
		}
	}
	return true
}

// isAlike reports whether all parts of a type have one capability and one mark.
func isAlike(t api.Type) bool {
	type both struct{ c, mark int }
	var first *both
	for part := range walk.Parts(t) {
		b := both{part.Cap, part.Mark}
		if first == nil {
			first = &b
		}
		if *first != b {
			return false
		}
	}
	return true
}

// isStored reports whether variables and fields may have a type: it is reified, without arrows, and even.
func isStored(t api.Type) bool {
	if !types.Reified(t) || !isEven(t) {
		return false
	}
	for n := range walk.Nodes(t) {
		if n.Kind == api.TypeArrow {
			return false
		}
	}
	return true
}
