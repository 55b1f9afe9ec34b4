package world

import (
	"strconv"
	"strings"

	"hackamore/api"
	"hackamore/num"
)

// shower writes values. Objects have numbers in the order in which they are met.
type shower struct {
	w     *World
	met   map[uint64]int
	order []uint64 // the objects that were met
	text  strings.Builder
	size  int // of the text, also where it is too long to be kept
}

func (w *World) shower() *shower { return &shower{w: w, met: make(map[uint64]int)} }

// Show returns the text of a value.
func (w *World) Show(v api.Value) (string, api.Errno) {
	if w == nil {
		return "", api.ErrArg
	}
	if !w.isRightValue(v) {
		return "", ErrBroken
	}
	return w.shower().show(v)
}

// show returns the text of a right value. With an error no object is met by it.
func (s *shower) show(v api.Value) (text string, e api.Errno) {
	before := len(s.order)
	s.text.Reset()
	s.size = 0
	defer func() {
		switch r := recover().(type) {
		case nil:
		case api.Errno:
			text, e = "", r
		default:
			text, e = "", api.ErrState
		}
		if e != api.OK {
			s.forget(before)
		}
	}()
	s.value(v, 0)
	if s.size > api.MaxSource {
		return "", api.ErrLarge
	}
	return s.text.String(), api.OK
}

// forget takes back that objects were met, but for the first ones.
func (s *shower) forget(left int) {
	for _, cell := range s.order[left:] {
		delete(s.met, cell)
	}
	s.order = s.order[:left]
}

// write puts parts behind the text, as long as there is room for them.
func (s *shower) write(parts ...string) {
	for _, p := range parts {
		s.size += len(p)
		if s.size <= api.MaxSource {
			s.text.WriteString(p)
		}
	}
}

// value writes a value that stands in so many objects and tuples.
func (s *shower) value(v api.Value, depth int) {
	if depth > api.MaxTree {
		panic(api.ErrDepth)
	}
	switch v.Kind {
	case api.ValNone:
		s.write("none")
	case api.ValBool:
		s.write(strconv.FormatBool(v.Lo == 1))
	case api.ValObject:
		s.object(v, depth)
	case api.ValActor:
		s.write("@", strconv.FormatUint(v.Lo, 10))
	case api.ValUnit:
		s.write(v.Name)
	case api.ValTuple:
		s.write("(")
		s.list(v.Kids, nil, depth)
		s.write(")")
	default:
		name, _ := num.Name(v.Kind)
		text, _ := num.Text(v)
		s.write(name, " ", text)
	}
}

// list writes the values in an object or a tuple, with the names of their fields, if they have some.
func (s *shower) list(l []api.Value, fields []api.Field, depth int) {
	for i, v := range l {
		if i > 0 {
			s.write(", ")
		}
		if fields != nil {
			s.write(fields[i].Name, "=")
		}
		s.value(v, depth+1)
	}
}

func (s *shower) object(v api.Value, depth int) {
	n, again := s.met[v.Lo]
	if !again {
		n = len(s.order)
		s.met[v.Lo] = n
		s.order = append(s.order, v.Lo)
	}
	number := "#" + strconv.Itoa(n)
	c := s.w.state.Cells[v.Lo]
	switch {
	case again:
		s.write(number)
	case c.Type == stringName:
		s.quoted(c.Bytes)
		s.write(number)
	case isArray(c.Type):
		s.write(c.Type, number, "{")
		s.list(c.Fields, nil, depth)
		s.write("}")
	default:
		s.write(c.Type, number, "{")
		s.list(c.Fields, s.w.entity(c.Type).Fields, depth)
		s.write("}")
	}
}

// quoted writes bytes between quotes; of those for which there is no room it only tells how many they are at least.
func (s *shower) quoted(bytes string) {
	if s.size+len(bytes) > api.MaxSource {
		s.size += len(bytes)
		return
	}
	s.write(quote(bytes))
}

// quote returns bytes between quotes.
func quote(bytes string) string {
	return `"` + strings.NewReplacer(`\`, `\\`, `"`, `\"`, "\n", `\n`).Replace(bytes) + `"`
}

// Dump returns the text of a world.
func (w *World) Dump() string {
	if w == nil {
		return ""
	}
	var b strings.Builder
	s := w.shower()
	for i, a := range w.state.Actors {
		if a.Type == "" {
			continue
		}
		var fields []string
		for j, f := range w.entity(a.Type).Fields {
			fields = append(fields, f.Name+"="+s.shown(a.Fields[j]))
		}
		line(&b, "actor ", strconv.Itoa(i), " ", a.Type, "{", strings.Join(fields, ", "), "}")
		for _, m := range a.Mail {
			var args []string
			for _, v := range m.Args {
				args = append(args, s.shown(v))
			}
			line(&b, " ", m.Name, "(", strings.Join(args, ", "), ") from ", strconv.Itoa(m.From))
		}
	}
	for _, bytes := range w.state.Output {
		line(&b, "out ", quote(bytes))
	}
	return b.String()
}

// shown returns the text of a value in a text of the world.
func (s *shower) shown(v api.Value) string {
	text, e := s.show(v)
	if e != api.OK {
		return "?"
	}
	return text
}

func line(b *strings.Builder, parts ...string) {
	for _, p := range parts {
		b.WriteString(p)
	}
	b.WriteByte('\n')
}
