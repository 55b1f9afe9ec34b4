package meaning_test

import (
	"slices"
	"strings"
	"testing"

	"hackamore/api"
	"hackamore/check"
	"hackamore/meaning"
	"hackamore/samples"
	"hackamore/world"
)

// ordinary is a program as one writes it, with actors that send objects to each other.
const ordinary = `
class Item
  var n: U32
  var next: (Item | None)
  new create(n': U32) =>
    n = n'
    next = None
  fun ref more(): None => n = n + U32.create(1)

class Chain
  var first: (Item | None) = None
  fun ref push(i: Item): None =>
    i.next = first
    first = i
  fun box sum(): U32 =>
    var s: U32 = U32.create(0)
    var at: (Item box | None) = first
    while true do
      match at
      | let i: Item box =>
        s = s + i.n
        at = i.next
      else
        break
      end
    end
    s

actor Counter
  var all: U32 = U32.create(0)
  var kept: (Item | None) = None
  var known: (Item val | None) = None
  let out: Out
  new create(out': Out) => out = out'
  be take(i: Item iso) =>
    let r: Item = consume i
    r.more()
    all = all + r.n
    kept = r
  be know(i: Item val) =>
    known = i
    all = all + i.n
  be pass(i: Item iso, to: Counter) =>
    all = all + U32.create(1)
    to.take(consume i)
  be tell() => out.print(all.string())
  be hand(to: Counter) =>
    match known
    | let i: Item val => to.know(i)
    end

actor Main
  new create(env: Env) =>
    let a: Counter = Counter.create(env.out)
    let b: Counter = Counter.create(env.out)
    let chain: Chain = Chain.create()
    var k: U32 = U32.create(0)
    while k < U32.create(4) do
      k = k + U32.create(1)
      chain.push(Item.create(k))
      a.pass(recover Item.create(k) end, b)
    end
    let v: Item val = recover val Item.create(U32.create(100)) end
    a.know(v)
    b.know(v)
    a.hand(b)
    a.tell()
    b.tell()
    env.out.print(chain.sum().string())
    for s: USize in Range.create(0, env.args.size()) do
      try env.out.print(env.args.apply(s)? + "!") else env.out.print("none") end
    end
    try
      env.out.print((U32.create(1) -? U32.create(2)).string())
    else
      env.out.print("below")
    then
      env.out.print("then")
    end
`

// taken returns the program of a text that the checker takes.
func taken(t testing.TB, text string) []api.Entity {
	t.Helper()
	p, e := parsed(text)
	if e != api.OK {
		t.Fatalf("the program: error %d", e)
	}
	if _, f, e := check.Check(p); e != api.OK {
		t.Fatalf("check: error %d at %v", e, f)
	}
	return p
}

var rest = meaning.End{Kind: meaning.Rest, Actor: -1}

// TestRun: an ordinary program, in the order in which the messages are sent, and by other scripts.
func TestRun(t *testing.T) {
	p := taken(t, ordinary)
	s, end := meaning.Run(p, []string{"x", "y"}, nil, 100000)
	if end != rest || world.Check(s) != api.OK {
		t.Fatalf("the end: %v", end)
	}
	// The Out comes first, then Main, then a, then b; b prints ahead of what a passes to it.
	if want := []string{"10", "x!", "y!", "below", "then", "104", "100"}; !slices.Equal(s.Output, want) {
		t.Errorf("the output: %q, not %q", s.Output, want)
	}
	all := []api.Value{s.Actors[2].Fields[0], s.Actors[3].Fields[0]}
	if !alike(all, []api.Value{u32(104), u32(214)}) || len(s.Actors) != 4 {
		t.Errorf("%d actors, the sums %v", len(s.Actors), all)
	}
	const hello = "actor Main\n  new create(env: Env) => env.out.print(\"hi\")"
	s, end = meaning.Run(taken(t, hello), nil, nil, 100)
	if end != rest || !slices.Equal(s.Output, []string{"hi"}) || !alike(s.Trace, []api.Send{{From: 1, To: 0, Name: "print", Args: []string{`"hi"#0`}}}) {
		t.Errorf("hi: %v, %q, %v", end, s.Output, s.Trace)
	}
}

// TestRunErrors: of the program and its arguments, and fuel that ends.
func TestRunErrors(t *testing.T) {
	p := program(t)
	for i, c := range []struct {
		p    []api.Entity
		args []string
		want api.Errno
	}{
		{nil, nil, world.ErrMethod}, {append(slices.Clone(p), p[0]), nil, api.ErrTwice}, {p, make([]string, 65), api.ErrSize}, {slices.Repeat(p, 20), nil, api.ErrSize},
	} {
		if s, end := meaning.Run(c.p, c.args, nil, 100); !alike(s, world.State{}) || end != (meaning.End{Kind: meaning.Stuck, Actor: -1, Code: c.want}) {
			t.Errorf("%d: %v", i, end)
		}
	}
	for _, fuel := range []int{0, -1, -1 << 63} {
		s, end := meaning.Run(p, nil, nil, fuel)
		if end != (meaning.End{Kind: meaning.Fuel, Actor: 1, Code: api.ErrSteps}) || len(s.Actors[1].Mail) != 1 {
			t.Errorf("the fuel %d: %v", fuel, end)
		}
	}
}

// walked runs a program step by step, and tells the fuel that each step used.
func walked(t *testing.T, w *world.World, script []int) []int {
	t.Helper()
	var used []int
	for turn := 0; ; turn++ {
		choice := 0
		if turn < len(script) {
			choice = script[turn]
		}
		before := w.State()
		actor, some := w.Choose(choice)
		n, end, ok := meaning.Step(w, choice, 100000)
		if ok != some {
			t.Fatalf("Step: %v, %t", end, ok)
		}
		if !ok {
			if n != 0 || end != rest || !alike(before, w.State()) {
				t.Fatalf("a step without mail: %d, %v", n, end)
			}
			return used
		}
		if end != rest {
			t.Fatalf("a step ends: %v", end)
		}
		stepped(t, before, w.State(), actor)
		if p, q, race := w.Race(); race {
			t.Fatalf("behind a step: %v and %v race in\n%s", p, q, w.Dump())
		}
		used = append(used, n)
	}
}

// stepped asks what a step may change (P18.5).
func stepped(t *testing.T, before, after world.State, actor int) {
	t.Helper()
	for i, a := range before.Actors {
		b := after.Actors[i]
		if i != actor && !alike(a.Fields, b.Fields) {
			t.Fatalf("a step of %d changes a field of %d", actor, i)
		}
		mail := a.Mail
		if i == actor {
			mail = mail[1:]
		}
		if len(b.Mail) < len(mail) || !alike(b.Mail[:len(mail)], mail) {
			t.Fatalf("a step of %d changes the mail of %d", actor, i)
		}
	}
	if !alike(after.Trace[:len(before.Trace)], before.Trace) || !slices.Equal(after.Output[:len(before.Output)], before.Output) {
		t.Fatalf("a step of %d takes back what was", actor)
	}
}

// scripts are some ways in which a run may go.
func scripts(m *samples.Maker) []int {
	l := make([]int, m.Below(60))
	for i := range l {
		l[i] = m.Below(200) - 100
	}
	return l
}

// TestScripts: runs by Step are those of Run; scripts that choose alike have the same run; checked programs are never
// stuck, and have no race; more fuel changes nothing.
func TestScripts(t *testing.T) {
	p := taken(t, ordinary)
	m := samples.New(18)
	ends := map[string]int{}
	for range 40 {
		script := scripts(m)
		s, end := meaning.Run(p, []string{"x"}, script, 100000)
		if end != rest {
			t.Fatalf("the end: %v", end)
		}
		w, _ := world.New(p, []string{"x"})
		used := walked(t, w, script)
		if !alike(w.State(), s) {
			t.Fatal("Run and Step have other ends")
		}
		ends[strings.Join(s.Output, " ")]++
		again, end := meaning.Run(p, []string{"x"}, sameChoices(t, p, script, len(used), m), 100000)
		if end != rest || !alike(again, s) {
			t.Fatal("scripts that choose alike have other runs")
		}
		sum := 0
		for _, n := range used {
			sum += n
		}
		if again, end := meaning.Run(p, []string{"x"}, script, sum); end != rest || !alike(again, s) {
			t.Fatalf("just enough fuel: %v", end)
		}
		less := m.Below(sum)
		if _, end := meaning.Run(p, []string{"x"}, script, less); end.Kind != meaning.Fuel || end.Code != api.ErrSteps {
			t.Fatalf("fuel %d of %d: %v", less, sum, end)
		}
	}
	if len(ends) < 2 {
		t.Errorf("all scripts print alike: %v", ends)
	}
}

// sameChoices returns a script with other numbers that chooses the same actors, and goes on behind the last message.
func sameChoices(t *testing.T, p []api.Entity, script []int, steps int, m *samples.Maker) []int {
	t.Helper()
	w, _ := world.New(p, []string{"x"})
	var l []int
	for turn := range steps {
		choice := 0
		if turn < len(script) {
			choice = script[turn]
		}
		l = append(l, choice+(m.Below(7)-3)*len(w.Ready()))
		meaning.Step(w, choice, 100000)
	}
	return append(l, 5, 6, 7)
}

// posted returns a world whose only message is one to the Worker, and the actor 0 has none.
func posted(t *testing.T, p []api.Entity, to int, name string, args ...api.Value) *world.World {
	t.Helper()
	w := over(t, p)
	w.Take(1)
	if e := w.Send(api.Message{From: 1, To: to, Name: name, Args: args}); e != api.OK {
		t.Fatalf("Send: error %d", e)
	}
	return w
}

// TestStep: what comes of one message.
func TestStep(t *testing.T) {
	change := func(typ, name string, do func(*api.Method)) []api.Entity {
		p := program(t)
		do(method(p, typ, name))
		return p
	}
	add := func(do func(*api.Method)) []api.Entity { return change("main.Worker", "add", do) }
	body := func(e api.Expr) []api.Entity { return add(func(m *api.Method) { m.Body = e }) }
	end := func(kind, actor int, code api.Errno) meaning.End {
		return meaning.End{Kind: kind, Actor: actor, Code: code}
	}
	stuck := func(code api.Errno) meaning.End { return end(meaning.Stuck, 2, code) }
	for i, c := range []struct {
		w    *world.World
		used int
		want meaning.End
	}{
		{posted(t, program(t), 2, "create", u32(3)), 4, rest}, {posted(t, program(t), 2, "add", u32(3)), 6, stuck(world.ErrUnset)}, {posted(t, program(t), 2, "x"), 1, stuck(world.ErrMethod)},
		{posted(t, program(t), 2, "me"), 1, stuck(world.ErrMethod)}, {posted(t, program(t), 2, "add"), 1, stuck(api.ErrSize)}, {posted(t, program(t), 2, "add", none, none), 1, stuck(api.ErrSize)},
		{posted(t, body(one), 2, "add", none), 2, rest}, {posted(t, body(returns(one)), 2, "add", none), 3, rest}, {posted(t, body(fails), 2, "add", none), 2, stuck(api.ErrState)},
		{posted(t, add(func(m *api.Method) { m.Body, m.Partial = fails, true }), 2, "add", none), 2, stuck(api.ErrState)}, {posted(t, body(breaks), 2, "add", none), 2, stuck(api.ErrForm)},
		{posted(t, body(bad), 2, "add", none), 2, stuck(api.ErrScope)}, {posted(t, body(str(long(20001))), 2, "add", none), 2, end(meaning.Fuel, 2, api.ErrLarge)},
		{posted(t, body(while(continues, one, nothing)), 2, "add", none), 1000, end(meaning.Fuel, 2, api.ErrSteps)},
		{posted(t, body(api.Expr{}), 2, "add", none), 1, stuck(world.ErrMethod)}, {posted(t, program(t), 0, "print", object(0)), 1, end(meaning.Stuck, 0, api.ErrType)},
		{posted(t, program(t), 0, "print", none), 1, end(meaning.Stuck, 0, api.ErrType)}, {posted(t, body(x(api.OpGet, "n", this)), 2, "add", none), 3, stuck(world.ErrUnset)},
		{posted(t, body(call("add", this, one)), 2, "add", none), 4, rest},
	} {
		mail := len(c.w.State().Actors[max(c.want.Actor, 0)].Mail)
		used, end, ok := meaning.Step(c.w, i*7, 1000)
		if used != c.used || end != c.want || !ok {
			t.Errorf("step %d: used %d, %v, %t, not %d, %v", i, used, end, ok, c.used, c.want)
		}
		if end.Kind == meaning.Stuck && len(c.w.State().Actors[end.Actor].Mail) != mail-1 {
			t.Errorf("step %d: the message was not taken", i)
		}
	}
}

// TestStepEnds: steps without fuel, without mail, and by the runtime.
func TestStepEnds(t *testing.T) {
	end := func(kind, actor int, code api.Errno) meaning.End {
		return meaning.End{Kind: kind, Actor: actor, Code: code}
	}
	w := posted(t, program(t), 2, "create", u32(3))
	before := w.State()
	for _, fuel := range []int{0, -5} {
		if used, e, ok := meaning.Step(w, 0, fuel); used != 0 || e != end(meaning.Fuel, 2, api.ErrSteps) || !ok || !alike(before, w.State()) {
			t.Errorf("a step without fuel: %d, %v, %t", used, e, ok)
		}
	}
	if used, e, ok := meaning.Step(w, 0, 1); used != 1 || e != end(meaning.Fuel, 2, api.ErrSteps) || !ok || len(w.Ready()) > 0 {
		t.Errorf("a step with a fuel of 1: %d, %v, %t", used, e, ok)
	}
	if used, e, ok := meaning.Step(w, 0, 0); used != 0 || e != rest || ok {
		t.Errorf("a step without mail: %d, %v, %t", used, e, ok)
	}
	if used, e, ok := meaning.Step(nil, 0, 9); used != 0 || e != end(meaning.Stuck, -1, api.ErrArg) || ok {
		t.Errorf("a step without a world: %d, %v, %t", used, e, ok)
	}
	text := posted(t, program(t), 0, "print", object(2))
	s := text.State()
	s.Cells[2] = api.Cell{Type: "String", Bytes: "out"}
	text, _ = world.Load(s)
	if used, e, ok := meaning.Step(text, 0, 1); used != 1 || e != rest || !ok || !slices.Equal(text.State().Output, []string{"out"}) {
		t.Errorf("print: %d, %v, %t", used, e, ok)
	}
	s.Output = make([]string, 100000)
	text, _ = world.Load(s)
	if used, e, ok := meaning.Step(text, 0, 1); used != 1 || e != end(meaning.Fuel, 0, api.ErrFull) || !ok {
		t.Errorf("print behind the limit: %d, %v, %t", used, e, ok)
	}
}

// TestDeepBodies: bodies may be deeper than expressions that are handed in.
func TestDeepBodies(t *testing.T) {
	p := program(t)
	e := one
	for range 60000 {
		e = seq(e)
	}
	method(p, "main.Main", "create").Body = e
	if _, end := meaning.Run(p, nil, nil, 100000); end != rest {
		t.Errorf("a deep body: %v", end)
	}
	if _, end := meaning.Run(p, nil, nil, 60000); end != (meaning.End{Kind: meaning.Fuel, Actor: 1, Code: api.ErrSteps}) {
		t.Errorf("a deep body with too little fuel: %v", end)
	}
}
