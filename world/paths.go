package world

import (
	"cmp"
	"slices"
	"strings"

	"hackamore/api"
	"hackamore/cap"
	"hackamore/types"
	"hackamore/walk"
)

// sight is an object that is seen with a capability.
type sight struct{ cell, cap int }

// holder is an actor, or a message of its mail, from which objects are reached.
type holder struct{ actor, message int }

// looker finds out what is seen, and remembers it.
type looker struct {
	w        *World
	elements map[string]api.Type // the element types of Arrays, by their names
	named    map[[2]string]bool  // whether an entity is of a type, by its name and the text of the type
	inside   map[sight][]sight   // what is seen in an object that is reached with a capability
}

func (w *World) looker() *looker {
	return &looker{w: w, elements: map[string]api.Type{}, named: map[[2]string]bool{}, inside: map[sight][]sight{}}
}

// seen returns the objects that are seen in a value of a type from a capability.
func (l *looker) seen(x api.Value, t api.Type, from int) []sight {
	var all []sight
	switch t.Kind {
	case api.TypeName:
		c, ok := cap.View(from, walk.Counts(t.Cap, t.Mark))
		if x.Kind == api.ValObject && ok && l.isNamed(x, t) {
			return []sight{{int(x.Lo), c}}
		}
	case api.TypeUnion, api.TypeBoth:
		for _, a := range t.Args {
			all = append(all, l.seen(x, a, from)...)
		}
		if t.Kind == api.TypeUnion {
			all = least(all)
		}
	case api.TypeTuple:
		if x.Kind != api.ValTuple || len(x.Kids) != len(t.Args) {
			return nil
		}
		for i, a := range t.Args {
			all = append(all, l.seen(x.Kids[i], a, from)...)
		}
	case api.TypeArrow:
		if len(t.Args) >= 2 {
			return l.seen(x, t.Args[1], from)
		}
	}
	return all
}

// least leaves out objects with a capability, if there is a lesser one with which they are seen.
func least(all []sight) []sight {
	var left []sight
	for _, a := range all {
		isGreater := func(b sight) bool { return b.cell == a.cell && b.cap != a.cap && cap.Sub(a.cap, b.cap) }
		if !slices.ContainsFunc(all, isGreater) {
			left = append(left, a)
		}
	}
	return left
}

// isNamed reports whether an object is of a type that is a name.
func (l *looker) isNamed(x api.Value, t api.Type) bool {
	text, e := types.Text(t)
	if e != api.OK {
		return false
	}
	key := [2]string{l.w.Type(x), text}
	is, known := l.named[key]
	if !known {
		is = l.w.isNamed(key[0], t)
		l.named[key] = is
	}
	return is
}

// within returns what is seen in an object that is reached with a capability.
func (l *looker) within(s sight) []sight {
	all, known := l.inside[s]
	if known {
		return all
	}
	from := s.cap
	switch from {
	case api.Tag:
		return nil
	case api.Iso, api.Trn:
		from = api.Ref
	}
	c := l.w.state.Cells[s.cell]
	if isArray(c.Type) {
		t := l.element(c.Type)
		for _, v := range c.Fields {
			all = append(all, l.seen(v, t, from)...)
		}
	} else if c.Type != stringName {
		all = l.seenFields(l.w.entity(c.Type).Fields, c.Fields, from)
	}
	l.inside[s] = all
	return all
}

func (l *looker) seenFields(fields []api.Field, values []api.Value, from int) []sight {
	var all []sight
	for i, f := range fields {
		all = append(all, l.seen(values[i], f.Type, from)...)
	}
	return all
}

// element returns the element type of an Array's name, the zero Type without one.
func (l *looker) element(name string) api.Type {
	t, known := l.elements[name]
	if !known {
		t = elementType(name)
		l.elements[name] = t
	}
	return t
}

// elementType returns the element type of an Array's name, as reified programs name types.
func elementType(name string) api.Type {
	t, e := types.Parse(name + " val")
	if e != api.OK || len(t.Args) == 0 {
		return api.Type{}
	}
	return flat(t.Args[0])
}

// flat returns a type whose names have no Args any more.
func flat(t api.Type) api.Type {
	if t.Kind != api.TypeName {
		args := t.Args
		t.Args = nil
		for _, a := range args {
			t.Args = append(t.Args, flat(a))
		}
		return t
	}
	if len(t.Args) == 0 {
		return t
	}
	var texts []string
	for _, a := range t.Args {
		s, _ := types.Text(a)
		texts = append(texts, s)
	}
	t.Name, t.Args = t.Name+"["+strings.Join(texts, ", ")+"]", nil
	return t
}

// holders hands each actor and each message, in order, with what is seen in it.
func (l *looker) holders(do func(holder, []sight)) {
	w := l.w
	for i, a := range w.state.Actors {
		if a.Type == "" {
			continue
		}
		do(holder{i, -1}, l.seenFields(w.entity(a.Type).Fields, a.Fields, api.Ref))
		for j, m := range a.Mail {
			n := w.method(a.Type, m.Name, map[string]bool{})
			if n == nil || len(n.Params) != len(m.Args) {
				continue
			}
			var all []sight
			for k, v := range m.Args {
				all = append(all, l.seen(v, n.Params[k].Type, api.Ref)...)
			}
			do(holder{i, j}, all)
		}
	}
}

// Paths returns all paths to objects, once each.
func (w *World) Paths() []Path {
	if w == nil {
		return nil
	}
	var all []Path
	l := w.looker()
	l.holders(func(h holder, queue []sight) {
		met := make(map[sight]bool)
		for len(queue) > 0 {
			s := queue[0]
			queue = queue[1:]
			if met[s] {
				continue
			}
			met[s] = true
			all = append(all, Path{h.actor, h.message, s.cell, s.cap})
			queue = append(queue, l.within(s)...)
		}
	})
	slices.SortFunc(all, ordered)
	return all
}

// ordered compares two paths by their actors, messages, objects and capabilities.
func ordered(a, b Path) int {
	return cmp.Or(cmp.Compare(a.Actor, b.Actor), cmp.Compare(a.Message, b.Message), cmp.Compare(a.Cell, b.Cell), cmp.Compare(a.Cap, b.Cap))
}

// Race returns two paths, one of which writes what the other one reads.
func (w *World) Race() (Path, Path, bool) {
	all := w.Paths()
	to := make(map[int][]Path)
	for _, p := range all {
		to[p.Cell] = append(to[p.Cell], p)
	}
	for _, p := range all {
		if !cap.Writes(p.Cap) {
			continue
		}
		for _, q := range to[p.Cell] {
			if p.holder() != q.holder() && q.Cap != api.Tag {
				return p, q, true
			}
		}
	}
	return Path{}, Path{}, false
}

// holder returns from where a path begins.
func (p Path) holder() holder { return holder{p.Actor, p.Message} }
