package samples

import (
	"strings"

	"hackamore/api"
)

// Number returns a number that is often a small one, sometimes an invalid one.
func (m *Maker) Number() int {
	switch m.Below(12) {
	case 0:
		return -1 - m.Below(3)
	case 1:
		return 8 + m.Below(30)
	case 2:
		return 1 << (m.Below(63) + 1)
	}
	return m.Below(8)
}

// OddName returns a name that is often one that others have, sometimes an odd one.
func (m *Maker) OddName() string {
	switch m.Below(12) {
	case 0:
		return ""
	case 1:
		return strings.Repeat("x", m.Below(400))
	case 2:
		return m.One("\xff", "a b", "\n", "é", "this", "x]", "m.C[N val]", "\"")
	}
	return m.One("A", "B", "C", "D", "N", "Any", "m.Main", "f", "g", "x", "y", "create")
}

// OddType returns any type, well-formed or not.
func (m *Maker) OddType(depth int) api.Type {
	if m.Below(20) == 0 {
		return api.Type{}
	}
	t := api.Type{Kind: m.Number(), Name: m.OddName(), Cap: m.Number(), Mark: m.Number() % 4}
	if depth > 1 {
		for range m.Below(4) {
			t.Args = append(t.Args, m.OddType(depth-1))
		}
	}
	return t
}

// AnyType returns a type that is well-formed more often than not.
func (m *Maker) AnyType(depth int) api.Type {
	if m.Below(5) == 0 {
		return m.OddType(depth)
	}
	return m.CoreType(depth, map[string]int{"A": 0, "B": 0, "C": 1, "D": 2, "N": 0, "Any": 0, "m.Main": 0}, "x", "y")
}

// OddExpr returns any expression, well-formed or not.
func (m *Maker) OddExpr(depth int) api.Expr {
	if m.Below(10) == 0 {
		return api.Expr{}
	}
	x := api.Expr{Op: m.Below(api.OpLast + 1), Text: m.OddName()}
	if m.Below(10) == 0 {
		x.Op = m.Number()
	}
	for range m.Below(3) {
		x.Types = append(x.Types, m.AnyType(2))
	}
	if depth > 1 {
		for range m.Below(4) {
			x.Kids = append(x.Kids, m.OddExpr(depth-1))
		}
	}
	return x
}

// Bounds returns some type parameters.
func (m *Maker) Bounds() []api.Bound {
	var l []api.Bound
	for range m.Below(3) {
		b := api.Bound{Name: m.One("x", "y"), Type: m.AnyType(2)}
		if m.Below(4) == 0 {
			b.Name = m.OddName()
		}
		if m.Below(2) == 0 {
			b.Type = api.Type{Kind: api.TypeName, Name: "Any", Cap: 5 + m.Below(8)}
		}
		l = append(l, b)
	}
	return l
}

// OddMethod returns any method.
func (m *Maker) OddMethod() api.Method {
	x := api.Method{Kind: m.Below(5), Name: m.OddName(), Cap: m.Number(), Partial: m.Below(2) == 0}
	if m.Below(3) == 0 {
		x.Bounds = m.Bounds()
	}
	for range m.Below(3) {
		x.Params = append(x.Params, api.Param{Name: m.OddName(), Type: m.AnyType(2)})
	}
	if m.Below(3) > 0 {
		x.Result = m.AnyType(2)
	}
	if m.Below(2) == 0 {
		x.Body = m.OddExpr(4)
	}
	return x
}

// OddProgram returns any list of entities.
func (m *Maker) OddProgram() []api.Entity {
	var p []api.Entity
	for range m.Below(8) {
		e := api.Entity{Kind: m.Below(7), Name: m.OddName(), Cap: m.Number()}
		if m.Below(2) == 0 {
			e.Bounds = m.Bounds()
		}
		for range m.Below(3) {
			e.Provides = append(e.Provides, m.AnyType(2))
			e.Fields = append(e.Fields, api.Field{Name: m.OddName(), Type: m.AnyType(2)})
		}
		for range m.Below(4) {
			e.Methods = append(e.Methods, m.OddMethod())
		}
		p = append(p, e)
	}
	if m.Below(2) == 0 {
		p = append(p, api.Entity{Kind: api.Interface, Name: "Any", Cap: api.Tag}, api.Entity{Kind: api.Actor, Name: "m.Main", Cap: api.Tag, Methods: []api.Method{{Kind: api.New, Name: "create", Cap: api.Tag}}})
	}
	return p
}
