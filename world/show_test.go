package world_test

import (
	"slices"
	"strconv"
	"strings"
	"testing"

	"hackamore/api"
	"hackamore/num"
	"hackamore/samples"
	"hackamore/world"
)

// slow is another, plain way to the text of a value: it has no limits, and tells how deep values stand.
type slow struct {
	s     world.State
	met   []uint64
	depth int
}

func (l *slow) text(v api.Value, depth int) string {
	l.depth = max(l.depth, depth)
	switch v.Kind {
	case api.ValNone:
		return "none"
	case api.ValBool:
		return []string{"false", "true"}[v.Lo]
	case api.ValActor:
		return "@" + strconv.Itoa(int(v.Lo))
	case api.ValUnit:
		return v.Name
	case api.ValTuple:
		return "(" + l.list(v.Kids, nil, depth) + ")"
	case api.ValObject:
		if i := slices.Index(l.met, v.Lo); i >= 0 {
			return "#" + strconv.Itoa(i)
		}
		l.met = append(l.met, v.Lo)
		return l.object(l.s.Cells[v.Lo], "#"+strconv.Itoa(len(l.met)-1), depth)
	}
	name, _ := num.Name(v.Kind)
	text, _ := num.Text(v)
	return name + " " + text
}

func (l *slow) list(values []api.Value, names []string, depth int) string {
	var parts []string
	for i, v := range values {
		name := ""
		if names != nil {
			name = names[i] + "="
		}
		parts = append(parts, name+l.text(v, depth+1))
	}
	return strings.Join(parts, ", ")
}

func (l *slow) object(c api.Cell, n string, depth int) string {
	if c.Type == "String" {
		return quoted(c.Bytes) + n
	}
	var names []string
	if !strings.HasPrefix(c.Type, "Array[") {
		names = fieldNames(l.s, c.Type)
	}
	return c.Type + n + "{" + l.list(c.Fields, names, depth) + "}"
}

func fieldNames(s world.State, typ string) []string {
	names := []string{}
	for _, f := range entity(s.Program, typ).Fields {
		names = append(names, f.Name)
	}
	return names
}

func quoted(s string) string {
	return `"` + strings.ReplaceAll(strings.ReplaceAll(strings.ReplaceAll(s, `\`, `\\`), `"`, `\"`), "\n", `\n`) + `"`
}

// show returns what Show should.
func (l *slow) show(v api.Value) (string, api.Errno) {
	before := slices.Clone(l.met)
	l.depth = 0
	text := l.text(v, 0)
	switch {
	case l.depth > 100:
		l.met = before
		return "", api.ErrDepth
	case len(text) > 20000:
		l.met = before
		return "", api.ErrLarge
	}
	return text, api.OK
}

func (l *slow) dump() string {
	var lines []string
	shown := func(values []api.Value, names []string) string {
		var parts []string
		for i, v := range values {
			text, e := l.show(v)
			if e != api.OK {
				text = "?"
			}
			if names != nil {
				text = names[i] + "=" + text
			}
			parts = append(parts, text)
		}
		return strings.Join(parts, ", ")
	}
	for i, a := range l.s.Actors {
		if a.Type == "" {
			continue
		}
		lines = append(lines, "actor "+strconv.Itoa(i)+" "+a.Type+"{"+shown(a.Fields, fieldNames(l.s, a.Type))+"}")
		for _, m := range a.Mail {
			lines = append(lines, " "+m.Name+"("+shown(m.Args, nil)+") from "+strconv.Itoa(m.From))
		}
	}
	for _, s := range l.s.Output {
		lines = append(lines, "out "+quoted(s))
	}
	return strings.Join(append(lines, ""), "\n")
}

// random fills a state with objects whose fields, elements and arguments are any values.
func random(t testing.TB, m *samples.Maker) world.State {
	s := begun(t, m.One("a", "\\\"\n", long(m.Below(3)*9000))).State()
	s.Actors = append(s.Actors, world.Actor{}, world.Actor{Type: "main.Worker", Fields: make([]api.Value, 3)}, world.Actor{Type: "Out"})
	for range m.Below(12) + 3 {
		switch m.Below(6) {
		case 0:
			s.Cells = append(s.Cells, api.Cell{Type: "String", Bytes: long(m.Below(2) * m.Below(9000))})
		case 1:
			elements := make([]api.Value, m.Below(4))
			typ := m.One("Array[x]", "Array[main.Cell ref]", "Array[main.Cell iso]", "Array[(main.Cell val | None val)]", "Array[(main.Cell ref, (U32 val | main.Leaf box))]", "Array[Array[main.Cell ref] val]",
				"Array[(Array[main.Cell ref] val | None val)]", "Array[main.Named box]", "Array[(main.Named trn & main.Cell trn)]", "Array[(main.Cell ref, U32 val)]", "Array[]")
			s.Cells = append(s.Cells, api.Cell{Type: typ, Owner: m.Below(5), Fields: elements})
		case 2:
			s.Cells = append(s.Cells, api.Cell{})
		case 3:
			s.Cells = append(s.Cells, api.Cell{Type: "main.Leaf", Fields: make([]api.Value, 1)})
		default:
			s.Cells = append(s.Cells, api.Cell{Type: "main.Cell", Owner: 1, Fields: make([]api.Value, 10)})
		}
	}
	for i := range s.Cells {
		fill(m, s, s.Cells[i].Fields, strings.HasPrefix(s.Cells[i].Type, "Array["))
	}
	for i := range s.Actors {
		fill(m, s, s.Actors[i].Fields, false)
	}
	for range m.Below(4) {
		args := make([]api.Value, 3-m.Below(2)*m.Below(2))
		fill(m, s, args, true)
		s.Actors[3].Mail = append(s.Actors[3].Mail, api.Message{From: 1, To: 3, Name: m.One("take", "take", "take", "x", "deep"), Args: args})
	}
	return s
}

func fill(m *samples.Maker, s world.State, l []api.Value, all bool) {
	for i := range l {
		if all || m.Below(3) > 0 {
			l[i] = anyValue(m, s, 3)
		}
	}
}

// anyValue returns a value that is right in a state, often an object.
func anyValue(m *samples.Maker, s world.State, depth int) api.Value {
	switch m.Below(14) {
	case 0:
		return one
	case 1:
		return none
	case 2:
		return actor([]int{0, 1, 3}[m.Below(3)])
	case 3, 4:
		if depth > 1 {
			return tuple(anyValue(m, s, depth-1), anyValue(m, s, depth-1))
		}
	}
	for try := 0; ; try++ {
		if n := m.Below(len(s.Cells)); s.Cells[n].Type == "main.Cell" || s.Cells[n].Type != "" && try > 1 {
			return object(n)
		}
	}
}

// TestShowByChance: Show and Dump agree with the plain way.
func TestShowByChance(t *testing.T) {
	m := samples.New(170)
	for range 400 {
		s := random(t, m)
		w, e := world.Load(s)
		if e != api.OK {
			t.Fatalf("Load: error %d", e)
		}
		for range 10 {
			v := anyValue(m, s, 4)
			text, e := w.Show(v)
			want, err := (&slow{s: s}).show(v)
			if text != want || e != err {
				t.Fatalf("Show of %v: %.300s, error %d, not %.300s, error %d", v, text, e, want, err)
			}
		}
		if got, want := w.Dump(), (&slow{s: s}).dump(); got != want {
			t.Fatalf("Dump: %.1000s, not %.1000s", got, want)
		}
		turned, e := world.Load(reversed(s))
		if e != api.OK || turned.Dump() != w.Dump() {
			t.Fatalf("with objects in another order: error %d, %.1000s, not %.1000s", e, turned.Dump(), w.Dump())
		}
	}
}

// reversed returns a state whose objects have the numbers in the other order, and one more.
func reversed(s world.State) world.State {
	last := len(s.Cells)
	var turn func(l []api.Value) []api.Value
	turn = func(l []api.Value) []api.Value {
		l = slices.Clone(l)
		for i := range l {
			if l[i].Kind == api.ValObject {
				l[i].Lo = uint64(last) - l[i].Lo
			}
			l[i].Kids = turn(l[i].Kids)
		}
		return l
	}
	s.Cells = append(slices.Clone(s.Cells), api.Cell{Type: "String", Bytes: "more"})
	slices.Reverse(s.Cells)
	for i := range s.Cells {
		s.Cells[i].Fields = turn(s.Cells[i].Fields)
	}
	s.Actors = slices.Clone(s.Actors)
	for i := range s.Actors {
		s.Actors[i].Fields = turn(s.Actors[i].Fields)
		s.Actors[i].Mail = slices.Clone(s.Actors[i].Mail)
		for j := range s.Actors[i].Mail {
			s.Actors[i].Mail[j].Args = turn(s.Actors[i].Mail[j].Args)
		}
	}
	return s
}

// TestShow: single texts, and the errors.
func TestShow(t *testing.T) {
	w := changed(t, busy(t), func(s *world.State) { s.Actors[1].Mail = nil })
	for _, c := range []struct {
		v    api.Value
		want string
	}{
		{api.Value{}, "none"}, {truth(true), "true"}, {truth(false), "false"}, {one, "U32 1"}, {number("F64", "-1.5"), "F64 -1.5"}, {number("I128", "-7"), "I128 -7"},
		{none, "None"}, {unit("main.Red"), "main.Red"}, {actor(2), "@2"}, {tuple(one, tuple(none, actor(0)), truth(true)), "(U32 1, (None, @0), true)"},
		{object(0), `"a"#0`}, {object(1), `"line\nwith \"quotes\" \\"#0`}, {tuple(object(0), object(0), object(1)), `("a"#0, #0, "line\nwith \"quotes\" \\"#1)`},
		{object(6), "main.Leaf#0{n=none}"},
		{object(5), "main.Cell#0{i=none, t=none, r=main.Cell#1{i=none, t=none, r=#0, v=none, b=none, g=none, u=none, p=(#0, main.Leaf#2{n=none}), l=Array[main.Cell ref]#3{#1, #0}, a=none}, v=none, b=none, g=none, u=none, p=none, l=none, a=none}"},
	} {
		if got, e := w.Show(c.v); e != api.OK || got != c.want {
			t.Errorf("Show: %s, error %d, not %s", got, e, c.want)
		}
	}
	for _, v := range wrongValues() {
		if got, e := w.Show(v); e != world.ErrBroken || got != "" {
			t.Errorf("Show of %v: %s, error %d", v, got, e)
		}
	}
	const dump = `actor 0 Out{}
actor 1 main.Main{c=main.Cell#0{i=none, t=none, r=main.Cell#1{i=none, t=none, r=#0, v=none, b=none, g=none, u=none, p=none, l=none, a=none}, v=none, b=none, g=none, u=none, p=(#1, main.Leaf#2{n=none}), l=Array[main.Cell ref]#3{#0, #1}, a=none}, w=@2, s=none}
actor 2 main.Worker{c=none, k=none, n=U32 1}
 take(#1, None, U32 1) from 1
 take(#1, None, U32 1) from 1
 take(#1, None, U32 1) from 1
out "line\nwith \"quotes\" \\"
`
	if got := w.Dump(); got != dump {
		t.Errorf("Dump: %s", got)
	}
}

// TestShowLimits: how deep, and how large, a text may be.
func TestShowLimits(t *testing.T) {
	w := changed(t, begun(t), func(s *world.State) { s.Actors[1].Mail = nil })
	v := one
	for level := 1; level <= 102; level++ {
		v = arrayOf(t, w, "Array[x]", v)
		want := api.OK
		if level > 100 {
			want = api.ErrDepth
		}
		if s, e := w.Show(v); e != want || (s == "") != (e != api.OK) {
			t.Errorf("a value in %d objects: error %d", level, e)
		}
	}
	inner := arrayOf(t, w, "Array[x]")
	chain := inner
	for range 98 {
		chain = arrayOf(t, w, "Array[x]", chain)
	}
	for i, want := range []api.Errno{api.OK, api.ErrDepth} {
		call(w, inner, "push", deepTuple(2+i))
		if _, e := w.Show(chain); e != want {
			t.Errorf("a tuple in an Array in 98 others, %d levels: error %d", 2+i, e)
		}
		call(w, inner, "pop")
	}
	exact := textOf(t, w, long(19996)) // with two quotes, # and a digit
	if s, e := w.Show(exact); e != api.OK || len(s) != 20000 {
		t.Errorf("a text of 20000 bytes: %d, error %d", len(s), e)
	}
	for _, s := range []string{long(19997), long(19995) + "\n", strings.Repeat("\\", 9999)} {
		if got, e := w.Show(textOf(t, w, s)); e != api.ErrLarge || got != "" {
			t.Errorf("a text of 20001 bytes: %d, error %d", len(got), e)
		}
	}
	large, deep := textOf(t, w, long(20000)), v
	for _, l := range [][]api.Value{{large, deep}, {deep, large}} {
		if got, e := w.Show(tuple(l...)); e != api.ErrDepth || got != "" {
			t.Errorf("ErrDepth comes ahead: error %d", e)
		}
	}
	hi := textOf(t, w, "hi")
	set(t, w, actor(1), "c", tuple(hi, deep))
	set(t, w, actor(1), "w", tuple(hi, large))
	set(t, w, actor(1), "s", tuple(hi, exact))
	if got, want := w.Dump(), "actor 0 Out{}\nactor 1 main.Main{c=?, w=?, s=?}\n"; got != want {
		t.Errorf("Dump of what is too long: %.300s", got)
	}
	set(t, w, actor(1), "s", tuple(one, hi))
	if got, want := w.Dump(), "actor 0 Out{}\nactor 1 main.Main{c=?, w=?, s=(U32 1, \"hi\"#0)}\n"; got != want {
		t.Errorf("no object is met by what is too long: %.300s", got)
	}
}
