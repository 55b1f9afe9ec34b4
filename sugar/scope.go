package sugar

import (
	"strconv"

	"hackamore/api"
	"hackamore/located"
	"hackamore/syntax"
)

// bound is a type parameter. It is rewritten once; entities that were made before have it, too.
type bound struct {
	name string
	node api.Node
}

// local is a local variable of the method around an object literal that the literal names.
type local struct {
	name string
	typ  *located.Node
}

// frame is the entity in which an expression stands.
type frame struct {
	name     string
	fields   map[string]bool
	methods  map[string]*located.Node
	bounds   []*bound // of the entity
	inner    []*bound // of the method
	known    bool     // whether methods are known here
	inValues bool     // in the values of fields: the locals around a literal are parameters there
	around   *scope   // where a literal stands
	captured []local
}

// scope has the local variables of a body, with their types.
type scope struct {
	frame *frame
	outer *scope
	types map[string]*located.Node
}

// inside returns a scope inside of another one.
func (s *scope) inside() *scope { return &scope{s.frame, s, map[string]*located.Node{}} }

// scope returns a scope without local variables.
func (f *frame) scope() *scope { return &scope{f, nil, map[string]*located.Node{}} }

func (s *scope) declare(name string, typ *located.Node) { s.types[name] = typ }

// What a lower name is.
const (
	isNothing = iota
	isLocal
	isField    // of the entity
	isCaptured // a field for a local variable around the literal
)

// find returns what a lower name is, and the type of a local variable. A local variable around a literal that is found
// here becomes one of the literal's fields.
func (s *scope) find(name string) (int, *located.Node) {
	for at := s; at != nil; at = at.outer {
		if typ, ok := at.types[name]; ok {
			return isLocal, typ
		}
	}
	f := s.frame
	if f.fields[name] {
		return isField, nil
	}
	if f.around == nil {
		return isNothing, nil
	}
	what, typ := f.around.find(name)
	if what != isLocal && what != isCaptured {
		return isNothing, nil
	}
	f.capture(local{name, typ})
	if f.inValues {
		return isLocal, typ
	}
	return isCaptured, typ
}

// capture notes a local variable around the literal, once.
func (f *frame) capture(l local) {
	for _, c := range f.captured {
		if c.name == l.name {
			return
		}
	}
	f.captured = append(f.captured, l)
}

// own declares members as those of the frame's entity; of several with one name the first one counts.
func (f *frame) own(l []*located.Node) {
	f.fields, f.methods = map[string]bool{}, map[string]*located.Node{}
	for _, m := range l {
		if m.Is(syntax.Field) {
			f.fields[m.Text] = true
		} else if f.methods[m.Text] == nil {
			f.methods[m.Text] = m
		}
	}
}

// allBounds returns those of the entity and then those of the method.
func (f *frame) allBounds() []*bound {
	var l []*bound
	l = append(l, f.bounds...)
	return append(l, f.inner...)
}

// boundTypes returns the names of type parameters as type arguments.
func boundTypes(l []*bound) []api.Node {
	var out []api.Node
	for _, b := range l {
		out = append(out, named(b.name, ""))
	}
	return out
}

// fresh returns a closure that gives the next name that is none of the texts of the module.
func fresh(prefix string, texts map[string]bool) func() string {
	n := 0
	return func() string {
		for {
			n++
			if name := prefix + strconv.Itoa(n); !texts[name] {
				return name
			}
		}
	}
}

// allTexts notes the texts of all nodes.
func allTexts(n *located.Node, texts map[string]bool) {
	texts[n.Text] = true
	for _, k := range n.Kids {
		allTexts(k, texts)
	}
}
