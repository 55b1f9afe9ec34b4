package world_test

import (
	"math"
	"slices"
	"strconv"
	"testing"

	"hackamore/api"
	"hackamore/samples"
	"hackamore/world"
)

func message(from, to int, name string, args ...api.Value) api.Message {
	return api.Message{From: from, To: to, Name: name, Args: args}
}

// TestChoose: who has mail, and which one a number chooses.
func TestChoose(t *testing.T) {
	w := changed(t, begun(t), func(s *world.State) {
		s.Actors[1].Mail = nil
		for i := 2; i < 12; i++ {
			s.Actors = append(s.Actors, world.Actor{Type: "Out"})
		}
		for _, i := range []int{9, 2, 5} {
			s.Actors[i].Mail = []api.Message{message(-1, i, "print", object(0)), message(-1, i, "x")}
		}
	})
	if l := w.Ready(); !slices.Equal(l, []int{2, 5, 9}) {
		t.Errorf("Ready: %v", l)
	}
	for choice, want := range map[int]int{-1: 9, 0: 2, 1: 5, 2: 9, 3: 2, -2: 5, -3: 2, -4: 9, math.MaxInt: 5, math.MinInt: 5} {
		if got, ok := w.Choose(choice); !ok || got != want {
			t.Errorf("Choose(%d): %d, not %d", choice, got, want)
		}
	}
	empty := changed(t, begun(t), func(s *world.State) { s.Actors[1].Mail = nil })
	if got, ok := empty.Choose(3); ok || got != 0 || len(empty.Ready()) > 0 {
		t.Errorf("Choose without mail: %d, %t", got, ok)
	}
}

// TestMail: messages come in the order in which they were sent, for each sender, and the trace tells them.
func TestMail(t *testing.T) {
	m := samples.New(17)
	for range 50 {
		w := begun(t)
		if m, e := w.Take(1); e != api.OK || m.From != -1 || m.Name != "create" {
			t.Fatalf("the first message: %v, error %d", m, e)
		}
		for range 3 {
			if _, e := w.Spawn("main.Worker"); e != api.OK {
				t.Fatalf("Spawn: error %d", e)
			}
		}
		queues := make([][]api.Message, 5)
		var sent []api.Send
		for i := range 200 {
			to := m.Below(5)
			if m.Below(3) > 0 {
				x := message(m.Below(6)-1, to, "m"+strconv.Itoa(i), one, truth(true))
				if e := w.Send(x); e != api.OK {
					t.Fatalf("Send: error %d", e)
				}
				queues[to] = append(queues[to], x)
				sent = append(sent, api.Send{From: x.From, To: to, Name: x.Name, Args: []string{"U32 1", "true"}})
				continue
			}
			x, e := w.Take(to)
			if len(queues[to]) == 0 {
				if e != api.ErrNone || !alike(x, api.Message{}) {
					t.Fatalf("Take without mail: %v, error %d", x, e)
				}
				continue
			}
			if e != api.OK || !alike(x, queues[to][0]) {
				t.Fatalf("Take: %v, error %d, not %v", x, e, queues[to][0])
			}
			queues[to] = queues[to][1:]
		}
		s := w.State()
		if !alike(s.Trace, sent) || world.Check(s) != api.OK {
			t.Fatal("the trace is another one")
		}
		for i, q := range queues {
			if !alike(s.Actors[i].Mail, q) {
				t.Fatalf("the mail of %d is another one", i)
			}
		}
	}
}

// TestSendErrors: in their order, and that nothing has changed then.
func TestSendErrors(t *testing.T) {
	w := changed(t, busy(t), func(s *world.State) { s.Actors = append(s.Actors, world.Actor{}, world.Actor{Type: "Out"}) })
	deep := object(7)
	for range 100 {
		deep = arrayOf(t, w, "Array[x]", deep)
	}
	large := textOf(t, w, long(19990))
	pair := arrayOf(t, w, "Array[x]", textOf(t, w, long(20000)), deep)
	wrong := wrongValues()[5]
	for i, c := range []struct {
		m    api.Message
		want api.Errno
	}{
		{message(1, 5, long(61), wrong), api.ErrNone}, {message(1, -1, "x"), api.ErrNone}, {message(1, 3, "x"), api.ErrNone}, {message(-2, 2, long(61)), api.ErrNone},
		{message(5, 2, "x"), api.ErrNone}, {message(1, 1<<40, "x"), api.ErrNone}, {message(1, 2, long(61), wrong), api.ErrSize}, {message(1, 2, "x", one, wrong), world.ErrBroken},
		{message(1, 2, "x", one, api.Value{}), world.ErrBroken}, {message(1, 2, "x", deep, wrong), world.ErrBroken}, {message(1, 2, "x", large, deep), api.ErrDepth},
		{message(1, 2, "x", textOf(t, w, long(20000)), deep), api.ErrLarge}, {message(1, 2, "x", pair), api.ErrDepth},
		{message(3, 2, "x"), api.OK}, {message(-1, 4, long(60), one), api.OK}, {message(2, 2, "", large, large), api.OK},
	} {
		before := w.State()
		if e := w.Send(c.m); e != c.want {
			t.Errorf("message %d: error %d, not %d", i, e, c.want)
		}
		if after := w.State(); alike(before, after) == (c.want == api.OK) {
			t.Errorf("message %d: what has changed is not right", i)
		}
	}
	full := changed(t, begun(t), func(s *world.State) {
		s.Actors[0].Mail = slices.Repeat([]api.Message{message(-1, 0, "x")}, 1998)
	})
	for i, want := range []api.Errno{api.OK, api.ErrFull} {
		if e := full.Send(message(-1, 1, "x")); e != want {
			t.Errorf("mail that is nearly full, message %d: error %d", i, e)
		}
	}
	if e := full.Send(message(-1, 1, "x", wrong)); e != world.ErrBroken {
		t.Errorf("ErrFull comes last: error %d", e)
	}
	if _, e := full.Take(0); e != api.OK {
		t.Errorf("Take: error %d", e)
	}
	if e := full.Send(message(-1, 1, "x")); e != api.OK {
		t.Errorf("with room again: error %d", e)
	}
	full = changed(t, begun(t), func(s *world.State) { s.Trace = make([]api.Send, 99999) })
	for i, want := range []api.Errno{api.OK, api.ErrFull} {
		if e := full.Send(message(-1, 1, "x")); e != want {
			t.Errorf("a trace that is nearly full, message %d: error %d", i, e)
		}
	}
}

// TestSendCopies: what is sent, taken and traced is of its own.
func TestSendCopies(t *testing.T) {
	w := begun(t)
	arg := tuple(one, tuple(one, one))
	if e := w.Send(message(-1, 0, "x", arg, object(1))); e != api.OK {
		t.Fatalf("Send: error %d", e)
	}
	arg.Kids[1].Kids[0] = none
	m, e := w.Take(0)
	if e != api.OK || !alike(m.Args, []api.Value{tuple(one, tuple(one, one)), object(1)}) {
		t.Errorf("Take: %v, error %d", m, e)
	}
	if s := w.State(); !slices.Equal(s.Trace[0].Args, []string{"(U32 1, (U32 1, U32 1))", `Env#0{out=@0, args=Array[String val]#1{}, root=AmbientAuth}`}) {
		t.Errorf("the trace: %v", s.Trace)
	}
	for _, n := range []int{-1, 2, 1 << 40, 0} {
		if m, e := w.Take(n); e != api.ErrNone || !alike(m, api.Message{}) {
			t.Errorf("Take of %d: error %d", n, e)
		}
	}
}

// TestActors: they are made, up to a limit, and taken away, without mail.
func TestActors(t *testing.T) {
	w := begun(t)
	for _, typ := range []string{"", "main.Cell", "None", "main.Named", "x", "main.Worker tag"} {
		unchanged(t, w, func() {
			if v, e := w.Spawn(typ); e != world.ErrMethod || !alike(v, api.Value{}) {
				t.Errorf("Spawn of %q: error %d", typ, e)
			}
		})
	}
	for i := 2; i < 64; i++ {
		if v, e := w.Spawn("main.Worker"); e != api.OK || !alike(v, actor(i)) {
			t.Fatalf("Spawn: %v, error %d", v, e)
		}
	}
	if s := w.State(); !alike(s.Actors[63], world.Actor{Type: "main.Worker", Fields: make([]api.Value, 3)}) {
		t.Errorf("a new actor: %v", s.Actors[63])
	}
	for n, want := range map[int]api.Errno{1: api.ErrState, -1: api.ErrNone, 64: api.ErrNone, 1 << 40: api.ErrNone} {
		unchanged(t, w, func() {
			if e := w.Remove(n); e != want {
				t.Errorf("Remove of %d: error %d", n, e)
			}
		})
	}
	for i, want := range []api.Errno{api.OK, api.ErrNone} {
		if e := w.Remove(40); e != want {
			t.Errorf("Remove, time %d: error %d", i+1, e)
		}
	}
	if s := w.State(); !alike(s.Actors[40], world.Actor{}) || world.Check(s) != api.OK {
		t.Errorf("an actor that was taken away: %v", s.Actors[40])
	}
	unchanged(t, w, func() {
		if _, e := w.Spawn("Out"); e != api.ErrFull {
			t.Errorf("Spawn behind the limit: error %d", e)
		}
		if _, e := w.Spawn("x"); e != world.ErrMethod {
			t.Errorf("ErrMethod ahead of the limit: error %d", e)
		}
	})
	p := append(program(t), api.Entity{Kind: api.Actor}, api.Entity{Kind: api.Class, Name: "C"})
	w, _ = world.New(p, nil)
	if _, e := w.Spawn(""); e != world.ErrMethod {
		t.Errorf("Spawn of an entity without a name: error %d", e)
	}
}
