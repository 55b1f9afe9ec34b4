package cells

import (
	"slices"

	"hackamore/api"
)

// value returns an expression of a type, mostly.
func (m *Maker) value(s *scope, depth int, typ string) api.Expr {
	if m.Wrong > 0 && m.Below(m.Wrong) == 0 {
		typ = m.One(number, truth, cell, given, either, nix)
	}
	if depth > 2 {
		switch m.Below(8) {
		case 0:
			return m.block(s, depth, typ)
		case 1:
			return expr(api.OpIf, "", m.value(s, depth-1, truth), m.block(s, depth-1, typ), m.block(s, depth-1, typ))
		case 2:
			return m.attempt(s, depth, typ)
		}
	}
	switch typ {
	case number:
		return m.number(s, depth)
	case truth:
		return m.truth(s, depth)
	case cell:
		return m.cell(s, depth)
	case given:
		return m.given(s, depth)
	case either:
		return m.either(s, depth)
	}
	return typed(api.OpUnit, "", typeOf(nix))
}

func (m *Maker) literal() api.Expr { return typed(api.OpLit, m.One("0", "1", "7"), typeOf(number)) }

func (m *Maker) number(s *scope, depth int) api.Expr {
	if depth <= 1 {
		if x, ok := m.named(s, api.OpLocal, number); ok && m.Below(2) == 0 {
			return x
		}
		return m.literal()
	}
	switch m.Below(9) {
	case 0, 1:
		return call(m.One("add", "mul", "sub"), m.value(s, depth-1, number), m.value(s, depth-1, number))
	case 2:
		return expr(api.OpGet, m.One("v", "l"), m.value(s, depth-1, cell))
	case 3:
		return expr(api.OpSet, "v", m.value(s, depth-1, cell), m.value(s, depth-1, number))
	case 4:
		return expr(api.OpItem, m.One("0", "2"), expr(api.OpTuple, "", m.value(s, depth-1, number), m.value(s, depth-1, cell), m.value(s, depth-1, number)))
	case 5:
		return m.match(s, depth)
	case 6:
		return typed(api.OpRecover, "", api.Type{Kind: api.TypeSelf, Cap: api.Val * m.Below(2)}, m.block(s.recovering(), depth-1, number))
	case 7:
		if s.try {
			return call("may", m.value(s, depth-1, cell))
		}
	}
	return call("put", m.value(s, depth-1, cell), m.value(s, depth-1, number), m.value(s, depth-1, cell))
}

func (m *Maker) truth(s *scope, depth int) api.Expr {
	if depth <= 1 {
		return typed(api.OpLit, m.One("true", "false"), typeOf(truth))
	}
	switch m.Below(3) {
	case 0:
		return expr(api.OpIs, "", m.value(s, depth-1, cell), m.value(s, depth-1, cell))
	case 1:
		return call("op_not", m.value(s, depth-1, truth))
	}
	return call(m.One("eq", "lt"), m.value(s, depth-1, number), m.value(s, depth-1, number))
}

func (m *Maker) cell(s *scope, depth int) api.Expr {
	if x, ok := m.named(s, api.OpLocal, cell); ok && (depth <= 1 || m.Below(2) == 0) {
		return x
	}
	switch {
	case depth <= 1 && s.block, depth > 1 && m.Below(4) == 0:
		return m.given(s, depth-1)
	case depth <= 1:
		return expr(api.OpThis, "")
	}
	switch m.Below(3) {
	case 0:
		return call("raw", m.value(s, depth-1, cell))
	case 1:
		return create("create", "main.Cell", m.value(s, depth-1, cell))
	}
	return expr(api.OpGet, "c", m.value(s, depth-1, cell))
}

func (m *Maker) given(s *scope, depth int) api.Expr {
	if l := s.names[kept]; len(l) > 0 && m.Below(2) == 0 {
		name := m.One(l...)
		s.names[kept] = slices.DeleteFunc(l, func(n string) bool { return n == name })
		return expr(api.OpConsume, name)
	}
	if depth > 1 && m.Below(3) == 0 {
		return typed(api.OpRecover, "", api.Type{Kind: api.TypeSelf}, m.block(s.recovering(), depth-1, cell))
	}
	return call("cell", create("sent", "main.Leaf", m.literal()))
}

func (m *Maker) either(s *scope, depth int) api.Expr {
	if depth <= 1 {
		return m.literal()
	}
	return expr(api.OpIf, "", m.value(s, depth-1, truth), m.value(s, depth-1, number), api.Expr{})
}

// match returns a number by the cases of a union.
func (m *Maker) match(s *scope, depth int) api.Expr {
	x := expr(api.OpMatch, "", m.value(s, depth-1, either))
	inner, name := s.inner(), s.fresh()
	inner.names[number] = append(inner.names[number], name)
	if m.Below(2) == 0 {
		x.Kids = append(x.Kids, typed(api.OpCase, s.fresh(), typeOf(number), m.value(s, depth-1, truth), m.value(s, depth-1, number)))
	}
	x.Kids = append(x.Kids, typed(api.OpCase, name, typeOf(number), api.Expr{}, m.value(inner, depth-1, number)))
	x.Kids = append(x.Kids, typed(api.OpCase, "", typeOf(nix), api.Expr{}, m.value(s, depth-1, number)))
	return x
}

// attempt returns a try, of which both ways have a type.
func (m *Maker) attempt(s *scope, depth int, typ string) api.Expr {
	inner := s.inner()
	inner.try = true
	last := api.Expr{}
	if m.Below(3) == 0 {
		last = m.value(s, depth-1, nix)
	}
	return expr(api.OpTry, "", m.block(inner, depth-1, typ), m.block(s, depth-1, typ), last)
}

// statement returns an expression whose value plays no part.
func (m *Maker) statement(s *scope, depth int) api.Expr {
	worker := create("create", "main.Worker", m.literal())
	switch m.Below(11) {
	case 0, 1:
		typ := m.One(number, number, cell, truth)
		return m.declared(s, typ, m.value(s, depth-1, typ))
	case 2:
		return m.declared(s, kept, m.given(s, depth-1))
	case 3:
		if x, ok := m.named(s, api.OpAssign, open, m.value(s, depth-1, number)); ok {
			return x
		}
	case 4:
		return call("tell", worker, m.value(s, depth-1, number))
	case 5:
		return call("take", worker, m.given(s, depth-1))
	case 6:
		if depth > 2 {
			return m.loop(s, depth)
		}
	case 7:
		return expr(api.OpSet, m.One("c", "b", "g"), m.value(s, depth-1, cell), m.value(s, depth-1, cell))
	case 8:
		return expr(api.OpSet, m.One("i", "t"), m.value(s, depth-1, cell), m.given(s, depth-1))
	case 9:
		return expr(api.OpIf, "", m.value(s, depth-1, truth), m.leaving(s, depth-1), api.Expr{})
	}
	return m.value(s, depth-1, m.One(number, truth, cell, either))
}

// declared returns the declaration of a local variable, which is in scope then.
func (m *Maker) declared(s *scope, typ string, value api.Expr) api.Expr {
	op, name := api.OpVar, s.fresh()
	switch {
	case typ == kept && m.Below(2) == 0:
		op = api.OpLet
	case typ == number:
		s.names[open] = append(s.names[open], name)
	}
	s.names[typ] = append(s.names[typ], name)
	return typed(op, name, typeOf(typ), value)
}

// loop returns a loop; nothing from outside is given up in it.
func (m *Maker) loop(s *scope, depth int) api.Expr {
	inner := s.inner()
	inner.loop = true
	inner.names[kept] = nil
	return expr(api.OpWhile, "", m.value(inner, depth-1, truth), m.block(inner, depth-1, number), api.Expr{})
}

// leaving returns what leaves a loop, a try or the function, if it may.
func (m *Maker) leaving(s *scope, depth int) api.Expr {
	switch k := m.Below(3); {
	case k == 0 && s.loop:
		return expr(m.pickOp(api.OpBreak, api.OpContinue), "")
	case k == 1 && s.try:
		return expr(api.OpError, "")
	}
	return expr(api.OpReturn, "", m.value(s, depth, number))
}

func (m *Maker) pickOp(a, b int) int {
	if m.Below(2) == 0 {
		return a
	}
	return b
}
