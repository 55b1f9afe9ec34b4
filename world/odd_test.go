package world_test

import (
	"slices"
	"testing"

	"hackamore/api"
	"hackamore/samples"
	"hackamore/world"
)

// oddValue returns any value, right or not.
func oddValue(m *samples.Maker, depth int) api.Value {
	switch m.Below(6) {
	case 0:
		return one
	case 1:
		l := append(wrongValues(), rightValues()...)
		return l[m.Below(len(l))]
	case 2:
		return object(m.Below(12))
	case 3:
		return actor(m.Below(4))
	}
	v := api.Value{Kind: m.Number(), Lo: uint64(m.Number()), Hi: uint64(m.Below(2)), Name: m.OddName()}
	if depth > 1 {
		v.Kids = oddValues(m, depth-1)
	}
	return v
}

func oddValues(m *samples.Maker, depth int) []api.Value {
	var l []api.Value
	for range m.Below(4) {
		l = append(l, oddValue(m, depth))
	}
	return l
}

// oddProgram returns a program of any entities that is, more often than not, one that can begin.
func oddProgram(t testing.TB, m *samples.Maker) []api.Entity {
	var p []api.Entity
	names := map[string]bool{}
	for _, e := range append(program(t), m.OddProgram()...) {
		if !names[e.Name] || m.Below(50) == 0 {
			p = append(p, e)
		}
		names[e.Name] = true
	}
	return p
}

// use calls all methods of a world with any arguments, and tells whether something has changed with an error.
func use(t *testing.T, w *world.World, m *samples.Maker) {
	t.Helper()
	p := w.State().Program
	name := func() string { return p[m.Below(len(p))].Name }
	for range 60 {
		before := w.State()
		var e api.Errno
		raised := false
		v, x := oddValue(m, 3), oddValue(m, 3)
		switch m.Below(14) {
		case 0:
			_, e = w.Spawn(name())
		case 1:
			_, e = w.Make(m.Number(), name())
		case 2:
			_, e = w.Text(m.Number(), m.OddName())
		case 3:
			_, e = w.Array(m.Number(), m.One("Array[x]", "Array[A val]", "Array[", m.OddName()), oddValues(m, 3))
		case 4:
			_, e = w.Get(v, m.One("out", "c", "r", m.OddName()))
		case 5:
			_, e = w.Set(v, m.One("out", "c", "r", m.OddName()), x)
		case 6, 7:
			_, raised, e = w.Call(m.Number(), v, m.One("string", "size", "apply", "push", "pop", "update", "add", "print", m.OddName()), oddValues(m, 3))
		case 8:
			e = w.Send(api.Message{From: m.Number() - 1, To: m.Number(), Name: m.OddName(), Args: oddValues(m, 3)})
		case 9:
			_, e = w.Take(m.Number())
		case 10:
			_, e = w.Show(v)
		case 11:
			if v, err := w.Spawn("Out"); err == api.OK && w.Remove(int(v.Lo)) != api.OK {
				t.Fatal("a new actor is not taken away")
			}
		case 12:
			w.Is(v, m.AnyType(4))
			w.Type(v)
			world.Same(v, x)
			w.Choose(m.Number())
			w.Entity(m.OddName())
			w.Method(name(), m.OddName())
		case 13:
			e = w.Drop(m.Number() + 100)
		}
		if (raised || e != api.OK) && !alike(before, w.State()) {
			t.Fatalf("with the error %d something has changed", e)
		}
	}
	if e := world.Check(w.State()); e != api.OK {
		t.Fatalf("a state is not right any more:\n%s", w.Dump())
	}
	if a, b := w.Paths(), w.Paths(); !slices.Equal(a, b) {
		t.Fatal("paths are other ones again")
	}
	if p, q, ok := w.Race(); ok == (p == q) {
		t.Fatalf("Race: %v, %v, %t", p, q, ok)
	}
}

// TestOdd: any arguments, over any programs; the states stay right, and calls with an error change nothing.
func TestOdd(t *testing.T) {
	m := samples.New(1700)
	begins := 0
	for range 100 {
		w, e := world.New(oddProgram(t, m), []string{m.OddName()})
		if e != api.OK {
			continue
		}
		begins++
		use(t, w, m)
	}
	if begins < 20 {
		t.Errorf("only %d programs begin", begins)
	}
}

// TestOddStates: Check of any states.
func TestOddStates(t *testing.T) {
	m := samples.New(1701)
	right := 0
	for range 800 {
		s := random(t, m)
		for range m.Below(3) {
			switch m.Below(5) {
			case 0:
				s.Actors[m.Below(len(s.Actors))].Fields = oddValues(m, 3)
			case 1:
				c := &s.Cells[m.Below(len(s.Cells))]
				c.Fields = oddValues(m, 3)
			case 2:
				c := &s.Cells[m.Below(len(s.Cells))]
				c.Type, c.Owner = m.One("", "String", "Array[x]", "main.Cell", m.OddName()), m.Number()
			case 3:
				i := m.Below(len(s.Actors))
				s.Actors[i].Mail = append(s.Actors[i].Mail, api.Message{From: m.Number() - 1, To: i, Name: m.OddName(), Args: oddValues(m, 2)})
			case 4:
				s.Actors[m.Below(len(s.Actors))].Type = m.One("", "Out", "main.Main", "main.Cell")
			}
		}
		w, e := world.Load(s)
		if e != world.Check(s) || (w == nil) != (e != api.OK) {
			t.Fatalf("Load: error %d", e)
		}
		if w == nil {
			continue
		}
		right++
		if !alike(w.State(), s) || w.Dump() != (&slow{s: s}).dump() || !slices.Equal(w.Paths(), model{w, s}.paths()) {
			t.Fatal("a world of a right state has another one")
		}
	}
	if right < 80 || right > 750 {
		t.Errorf("%d states are right", right)
	}
}
