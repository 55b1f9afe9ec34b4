package colour

import (
	"slices"
	"strings"

	"hackamore/api"
	"hackamore/blocks"
	"hackamore/ssa"
)

// survey is a program by the names of what it has.
type survey struct {
	p                           ssa.Program
	classes, selectors, methods []string
	classAt, methodAt           map[string]int // the first ones of these names
}

// Of returns the world of a program, with the names of its classes, its selectors and its methods.
func Of(p ssa.Program, roots []string) (w World, classes, selectors, methods []string, e api.Errno) {
	if _, e := ssa.Check(p); e != api.OK {
		return World{}, nil, nil, nil, e
	}
	s := newSurvey(p)
	if len(s.selectors) > maxSelectors || len(s.classes) > api.MaxUnits {
		return World{}, nil, nil, nil, api.ErrSize
	}
	for _, name := range roots {
		i, ok := s.methodAt[name]
		if !ok {
			return World{}, nil, nil, nil, api.ErrNone
		}
		w.Roots = append(w.Roots, i)
	}
	for i := range s.classes {
		w.Classes = append(w.Classes, s.entries(i))
	}
	for i := range p.Funcs {
		w.Bodies = append(w.Bodies, s.body(&p.Funcs[i]))
	}
	if e := Check(w); e != api.OK {
		return World{}, nil, nil, nil, e
	}
	return w, s.classes, s.selectors, s.methods, api.OK
}

func newSurvey(p ssa.Program) *survey {
	s := &survey{p: p, classAt: make(map[string]int), methodAt: make(map[string]int)}
	for _, x := range p.Entities {
		if x.Kind != api.Class && x.Kind != api.Actor && x.Kind != api.Primitive {
			continue
		}
		if _, ok := s.classAt[x.Name]; !ok {
			s.classAt[x.Name] = len(s.classes)
		}
		s.classes = append(s.classes, x.Name)
	}
	for i := range p.Funcs {
		f := &p.Funcs[i]
		s.methodAt[f.Name] = i
		s.methods = append(s.methods, f.Name)
		for _, class := range s.classes {
			if rest, ok := strings.CutPrefix(f.Name, class+"."); ok {
				s.selectors = append(s.selectors, rest)
				break
			}
		}
		for _, x := range blocks.All(f) {
			if x.Op == ssa.Call || x.Op == ssa.Send {
				s.selectors = append(s.selectors, x.Text)
			}
		}
	}
	slices.Sort(s.selectors)
	s.selectors = slices.Compact(s.selectors)
	return s
}

// entries returns what a class understands; of several with one name the first one does.
func (s *survey) entries(class int) []Entry {
	name := s.classes[class]
	if s.classAt[name] != class {
		return nil
	}
	var l []Entry
	for i, selector := range s.selectors {
		if m, ok := s.methodAt[name+"."+selector]; ok {
			l = append(l, Entry{i, m})
		}
	}
	return l
}

// body returns what a function does.
func (s *survey) body(f *ssa.Func) Body {
	var b Body
	class := func(name string) {
		if i, ok := s.classAt[name]; ok {
			b.Classes = append(b.Classes, i)
		}
	}
	method := func(name string) {
		if i, ok := s.methodAt[name]; ok {
			b.Methods = append(b.Methods, i)
		}
	}
	for _, x := range blocks.All(f) {
		switch x.Op {
		case ssa.Call, ssa.Send:
			i, _ := slices.BinarySearch(s.selectors, x.Text)
			b.Selectors = append(b.Selectors, i)
		case ssa.Direct:
			method(x.Text)
		case ssa.Spawn:
			method(x.Name + "." + x.Text)
			class(x.Name)
		case ssa.Make:
			class(x.Text)
		case ssa.Const, ssa.Text, ssa.Native:
			if x.Type.Kind == api.TypeName {
				class(x.Type.Name)
			}
			if x.Op == ssa.Text {
				class("String")
			}
		}
	}
	for _, l := range []*[]int{&b.Selectors, &b.Methods, &b.Classes} {
		slices.Sort(*l)
		*l = slices.Compact(*l)
	}
	return b
}
