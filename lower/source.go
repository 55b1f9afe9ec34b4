package lower

import (
	"slices"
	"strconv"

	"hackamore/api"
	"hackamore/num"
	"hackamore/walk"
	"hackamore/world"
)

// source is a program that is lowered, with what is known of the names of its methods.
type source struct {
	entities map[string]*api.Entity
	names    []string // of its entities, in order
	found    map[string][]*api.Method
	natives  map[string]map[string]num.Signature // of numbers and Bools
	known    map[string]*meant
}

// meant is what a call of a method with some name may mean.
type meant struct {
	sends  []string // the actors to which a message is sent
	calls  bool     // there may be something else to call
	raises bool     // which may end with an error
}

func newSource(p []api.Entity) (*source, api.Errno) {
	if _, e := world.New(p, nil); e != api.OK {
		return nil, e
	}
	s := &source{
		entities: make(map[string]*api.Entity), found: make(map[string][]*api.Method),
		natives: make(map[string]map[string]num.Signature), known: make(map[string]*meant),
	}
	for i := range p {
		s.entities[p[i].Name] = &p[i]
		s.names = append(s.names, p[i].Name)
	}
	for _, typ := range append(num.Types(), "Bool") {
		methods, _ := num.Methods(typ)
		s.natives[typ] = make(map[string]num.Signature)
		for _, m := range methods {
			s.natives[typ][m.Name] = m
		}
	}
	return s, api.OK
}

// methods returns the methods of an entity, each name once, as world's Method finds them.
func (s *source) methods(typ string) []*api.Method {
	if l, ok := s.found[typ]; ok {
		return l
	}
	var l []*api.Method
	met, named := make(map[string]bool), make(map[string]bool)
	var visit func(typ string)
	visit = func(typ string) {
		x := s.entities[typ]
		if x == nil || met[typ] {
			return
		}
		met[typ] = true
		for i := range x.Methods {
			if m := &x.Methods[i]; !named[m.Name] {
				named[m.Name] = true
				l = append(l, m)
			}
		}
		for _, t := range x.Provides {
			if t.Kind == api.TypeName {
				visit(t.Name)
			}
		}
	}
	visit(typ)
	s.found[typ] = l
	return l
}

// method returns the method of an entity with a name, nil without one.
func (s *source) method(typ, name string) *api.Method {
	l := s.methods(typ)
	i := slices.IndexFunc(l, func(m *api.Method) bool { return m.Name == name })
	if i < 0 {
		return nil
	}
	return l[i]
}

// meaning returns what a call of a method with a name may mean.
func (s *source) meaning(name string) *meant {
	if m, ok := s.known[name]; ok {
		return m
	}
	m := &meant{}
	s.known[name] = m
	for _, typ := range s.names {
		x := s.method(typ, name)
		switch {
		case x == nil:
		case x.Kind == api.Be && s.entities[typ].Kind == api.Actor:
			m.sends = append(m.sends, typ)
		case x.Kind == api.Fun && x.Body.Op != 0:
			m.calls = true
			m.raises = m.raises || x.Partial
		}
	}
	for _, l := range s.natives {
		if x, ok := l[name]; ok {
			m.calls = true
			m.raises = m.raises || x.Partial
		}
	}
	switch name {
	case "string", "size", "add", "eq", "ne", "lt", "le", "gt", "ge", "substring", "push":
		m.calls = true
	case "apply", "update", "pop":
		m.calls, m.raises = true, true
	case "print":
		m.calls = m.calls || !slices.Contains(m.sends, "Out")
	}
	return m
}

// isRight reports whether a body is as it is asked for when it is run: the numbers of Kids and Types, cases, what leaves
// loops, literals and digits.
func isRight(x *api.Expr, loop bool) bool {
	if !walk.Formed(x) {
		return false
	}
	kids := x.Kids
	switch x.Op {
	case api.OpLit:
		return isLiteral(x)
	case api.OpBreak, api.OpContinue:
		return loop
	case api.OpCase:
		return false
	case api.OpItem:
		return isDigits(x.Text) && isRight(&kids[0], loop)
	case api.OpMatch:
		return isRight(&kids[0], loop) && areCases(kids[1:], loop)
	case api.OpWhile:
		return isRight(&kids[0], true) && isRight(&kids[1], true) && mayBeNone(&kids[2], loop)
	case api.OpIf:
		return isRight(&kids[0], loop) && isRight(&kids[1], loop) && mayBeNone(&kids[2], loop)
	case api.OpTry:
		return isRight(&kids[0], loop) && mayBeNone(&kids[1], loop) && mayBeNone(&kids[2], loop)
	}
	for i := range kids {
		if !isRight(&kids[i], loop) {
			return false
		}
	}
	return true
}

func mayBeNone(x *api.Expr, loop bool) bool { return x.Op == 0 || isRight(x, loop) }

func areCases(l []api.Expr, loop bool) bool {
	for i := range l {
		x := &l[i]
		if x.Op != api.OpCase || !walk.Formed(x) || !mayBeNone(&x.Kids[0], loop) || !isRight(&x.Kids[1], loop) {
			return false
		}
	}
	return true
}

func isLiteral(x *api.Expr) bool {
	switch name := x.Types[0].Name; name {
	case "String":
		return true
	case "Bool":
		return x.Text == "true" || x.Text == "false"
	default:
		_, e := num.Parse(name, x.Text)
		return e == api.OK
	}
}

// isDigits reports whether a text is a number without leading zeros.
func isDigits(s string) bool {
	for i := range len(s) {
		if s[i] < '0' || s[i] > '9' {
			return false
		}
	}
	return s == "0" || s != "" && s[0] != '0'
}

// index returns the number that digits write, if it may be the index of an element.
func index(s string) (int, bool) {
	n, err := strconv.Atoi(s)
	return n, err == nil && n < api.MaxList
}
