package names

import (
	"slices"
	"strconv"

	"hackamore/api"
)

// tooLong reports whether an entity lists too much of anything.
func tooLong(e api.Entity) bool {
	if max(len(e.Bounds), len(e.Provides), len(e.Fields), len(e.Methods)) > api.MaxList {
		return true
	}
	return slices.ContainsFunc(e.Methods, func(m api.Method) bool {
		return max(len(m.Bounds), len(m.Params)) > api.MaxList
	})
}

// Check returns the error of a program: of its form alone.
func Check(p []api.Entity) api.Errno {
	if len(p) > api.MaxUnits {
		return api.ErrFull
	}
	seen := map[string]bool{}
	for _, e := range p {
		if seen[e.Name] {
			return api.ErrTwice
		}
		seen[e.Name] = true
		if tooLong(e) {
			return api.ErrFull
		}
		if !rightEntity(e) {
			return api.ErrForm
		}
		for _, m := range e.Methods {
			if !small(m.Body) {
				return api.ErrSize
			}
			if !missing(m.Body) && !rightExpr(m.Body) {
				return api.ErrForm
			}
		}
	}
	return api.OK
}

func isCap(cap int) bool { return cap >= api.Iso && cap <= api.Tag }

func within(n, least, most int) bool { return n >= least && n <= most }

// rightEntity checks all of an entity but the bodies.
func rightEntity(e api.Entity) bool {
	if !within(e.Kind, api.Class, api.Interface) || !isCap(e.Cap) || e.Name == "" || !rightBounds(e.Bounds) || !rightTypes(e.Provides) {
		return false
	}
	for _, f := range e.Fields {
		if f.Name == "" || !rightType(f.Type) {
			return false
		}
	}
	for _, m := range e.Methods {
		if !within(m.Kind, api.New, api.Be) || !isCap(m.Cap) || m.Name == "" || !rightBounds(m.Bounds) || !rightType(m.Result) {
			return false
		}
		for _, p := range m.Params {
			if p.Name == "" || !rightType(p.Type) {
				return false
			}
		}
	}
	return true
}

func rightBounds(l []api.Bound) bool {
	for _, b := range l {
		t := b.Type
		if sets := t.Kind == api.TypeName || t.Kind == api.TypeParam; sets && within(t.Cap, api.CapRead, api.CapAny) {
			t.Cap = api.Tag // a set may stand here, and nowhere else
		}
		if b.Name == "" || !rightType(t) {
			return false
		}
	}
	return true
}

func rightTypes(l []api.Type) bool {
	for _, t := range l {
		if !rightType(t) {
			return false
		}
	}
	return true
}

func rightType(t api.Type) bool {
	bare := t.Name == "" && t.Cap == api.CapNone && t.Mark == api.Plain
	marked := within(t.Mark, api.Plain, api.Aliased)
	switch t.Kind {
	case api.TypeName:
		return t.Name != "" && isCap(t.Cap) && marked && rightTypes(t.Args)
	case api.TypeParam:
		return t.Name != "" && within(t.Cap, api.CapNone, api.Tag) && marked && len(t.Args) == 0
	case api.TypeUnion, api.TypeBoth, api.TypeTuple:
		return bare && len(t.Args) >= 2 && rightTypes(t.Args)
	case api.TypeArrow:
		return bare && len(t.Args) == 2 && (t.Args[0].Kind == api.TypeSelf || t.Args[0].Kind == api.TypeParam) && rightTypes(t.Args)
	case api.TypeSelf:
		return t.Name == "" && within(t.Cap, api.CapNone, api.Tag) && marked && len(t.Args) == 0
	}
	return false
}

// small reports whether a body is not too large; it looks at no more nodes than may be there.
func small(e api.Expr) bool {
	count := 0
	var fits func(e api.Expr, depth int) bool
	fits = func(e api.Expr, depth int) bool {
		count++
		if count > api.MaxNodes || depth > api.MaxTree {
			return false
		}
		return !slices.ContainsFunc(e.Kids, func(k api.Expr) bool { return !fits(k, depth+1) })
	}
	return fits(e, 1)
}

// form is what an operation must be: whether it has a text, how many types, and how many kids; most is -1 for any.
type form struct {
	text        byte // '-' none, 't' one, '?' one that may be empty
	types, more int
	kids, most  int
}

// forms returns what operations must be.
func forms() [api.OpLast + 1]form {
	return [api.OpLast + 1]form{
		api.OpLit:      {'?', 1, 1, 0, 0},
		api.OpLocal:    {'t', 0, 0, 0, 0},
		api.OpThis:     {'-', 0, 0, 0, 0},
		api.OpGet:      {'t', 0, 0, 1, 1},
		api.OpSet:      {'t', 0, 0, 2, 2},
		api.OpVar:      {'t', 1, 1, 0, 1},
		api.OpLet:      {'t', 1, 1, 0, 1},
		api.OpAssign:   {'t', 0, 0, 1, 1},
		api.OpConsume:  {'t', 0, 0, 0, 0},
		api.OpSeq:      {'-', 0, 0, 0, -1},
		api.OpIf:       {'-', 0, 0, 3, 3},
		api.OpWhile:    {'-', 0, 0, 3, 3},
		api.OpMatch:    {'-', 0, 0, 1, -1},
		api.OpCase:     {'?', 1, 1, 2, 2},
		api.OpTry:      {'-', 0, 0, 3, 3},
		api.OpError:    {'-', 0, 0, 0, 0},
		api.OpReturn:   {'-', 0, 0, 1, 1},
		api.OpBreak:    {'-', 0, 0, 0, 0},
		api.OpContinue: {'-', 0, 0, 0, 0},
		api.OpCall:     {'t', 0, -1, 1, -1},
		api.OpNew:      {'t', 1, -1, 0, -1},
		api.OpRecover:  {'-', 1, 1, 1, 1},
		api.OpTuple:    {'-', 0, 0, 2, -1},
		api.OpItem:     {'t', 0, 0, 1, 1},
		api.OpIs:       {'-', 0, 0, 2, 2},
		api.OpUnit:     {'-', 1, 1, 0, 0},
	}
}

// missing reports whether an expression is api's zero Expr: a body or a guard that is none.
func missing(e api.Expr) bool {
	return e.Op == 0 && e.Text == "" && len(e.Types) == 0 && len(e.Kids) == 0
}

// rightExpr checks an expression that is not a case.
func rightExpr(e api.Expr) bool {
	all := forms()
	var right func(e api.Expr) bool
	right = func(e api.Expr) bool {
		if !within(e.Op, 1, api.OpLast) || !all[e.Op].fits(e) || !rightTypes(e.Types) || !rightParts(e) {
			return false
		}
		for i, k := range e.Kids {
			isCase := e.Op == api.OpMatch && i > 0
			if e.Op == api.OpCase && i == 0 && missing(k) {
				continue
			}
			if isCase != (k.Op == api.OpCase) || !right(k) {
				return false
			}
		}
		return true
	}
	return e.Op != api.OpCase && right(e)
}

func (f form) fits(e api.Expr) bool {
	count := func(n, least, most int) bool { return n >= least && (n <= most || most < 0) }
	if e.Text == "" && f.text == 't' || e.Text != "" && f.text == '-' {
		return false
	}
	return count(len(e.Types), f.types, f.more) && count(len(e.Kids), f.kids, f.most)
}

// rightParts checks what the numbers of parts do not tell.
func rightParts(e api.Expr) bool {
	switch e.Op {
	case api.OpRecover:
		return e.Types[0].Kind == api.TypeSelf && isCap(e.Types[0].Cap)
	case api.OpNew, api.OpUnit, api.OpLit:
		return e.Types[0].Kind == api.TypeName
	case api.OpItem:
		i, err := strconv.Atoi(e.Text)
		return err == nil && i >= 0 && strconv.Itoa(i) == e.Text
	}
	return true
}
