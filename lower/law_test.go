package lower_test

import (
	"slices"
	"testing"

	"hackamore/api"
	"hackamore/cells"
	"hackamore/check"
	"hackamore/lower"
	"hackamore/meaning"
	"hackamore/samples"
	"hackamore/ssa"
	"hackamore/subtype"
	"hackamore/world"
)

func dumped(t *testing.T, s world.State) string {
	t.Helper()
	w, e := world.Load(s)
	if e != api.OK {
		t.Fatalf("a state that is not right: error %d", e)
	}
	return w.Dump()
}

// lowered returns the functions of a program, all of which are right.
func lowered(t *testing.T, p []api.Entity) ssa.Program {
	t.Helper()
	f, e := lower.Lower(p)
	if e != api.OK {
		t.Fatalf("Lower: error %d", e)
	}
	if at, e := ssa.Check(f); e != api.OK {
		t.Fatalf("functions that are not right: error %d at %v", e, at)
	}
	return f
}

// promoted returns a program whose functions went through Promote and Clean.
func promoted(t *testing.T, p ssa.Program) ssa.Program {
	t.Helper()
	p.Funcs = slices.Clone(p.Funcs)
	for i, f := range p.Funcs {
		f, e := ssa.Promote(f)
		if e != api.OK {
			t.Fatalf("Promote: error %d", e)
		}
		if f, e = ssa.Clean(f); e != api.OK {
			t.Fatalf("Clean: error %d", e)
		}
		p.Funcs[i] = f
	}
	return p
}

// compare runs a program by both engines (P20.2); false, if it does not come to rest.
func compare(t *testing.T, p []api.Entity, args []string, script []int, fuel int) bool {
	t.Helper()
	s, end := meaning.Run(p, args, script, fuel)
	f := lowered(t, p)
	if end.Kind != meaning.Rest {
		return false
	}
	for _, f := range []ssa.Program{f, promoted(t, f)} {
		r, end := lower.Run(f, p, args, script, 100000)
		if end.Kind == meaning.Fuel && (end.Code != api.ErrSteps || fuel > 500) {
			continue
		}
		if end != (meaning.End{Kind: meaning.Rest, Actor: -1}) {
			text, _ := ssa.Print(f.Funcs)
			t.Fatalf("the end: %v\n%s", end, text)
		}
		if !alike(s.Trace, r.Trace) || !slices.Equal(s.Output, r.Output) || len(s.Actors) != len(r.Actors) || dumped(t, s) != dumped(t, r) {
			text, _ := ssa.Print(f.Funcs)
			t.Fatalf("%v, not %v\n%s%s%s", r.Trace, s.Trace, dumped(t, r), dumped(t, s), text)
		}
	}
	return true
}

// TestBodies: bodies made by numbers.
func TestBodies(t *testing.T) {
	p := parsed(t, text)
	rests := 0
	const rounds = 900
	for seed := range rounds {
		m := maker{Maker: samples.New(uint64(seed))}
		in := m
		in.try = true
		fuel := 5000
		if seed%3 == 0 {
			fuel = 500
		}
		if compare(t, with(p, m.body(2+seed%3), in.body(2+seed%4)), nil, []int{seed, seed / 2, seed / 3}, fuel) {
			rests++
		}
	}
	if rests < rounds*6/10 {
		t.Errorf("%d of %d runs come to rest", rests, rounds)
	}
}

// TestCheckedBodies: bodies that the checker takes.
func TestCheckedBodies(t *testing.T) {
	checked := parsed(t, cells.Text)
	p := parsed(t, cells.Calling())
	i, _ := subtype.Find(checked, cells.Entity)
	j := slices.IndexFunc(checked[i].Methods, func(m api.Method) bool { return m.Name == cells.Method })
	rests := 0
	for seed := range uint64(500) {
		body := cells.New(seed, 0).Body(5)
		checked[i].Methods[j].Body = body
		if _, _, e := check.Method(checked, i, j); e != api.OK {
			continue
		}
		method(p, cells.Entity, cells.Method).Body = body
		if compare(t, p, nil, nil, 3000) {
			rests++
		}
	}
	if rests < 150 {
		t.Errorf("%d runs come to rest", rests)
	}
}

// ordinary is a program as one writes it.
const ordinary = `
class Item
  var n: U32
  var next: (Item | None)
  new create(n': U32) =>
    n = n'
    next = None
  fun ref more(): None => n = n + U32.create(1)

class Chain
  var first: (Item | None) = None
  fun ref push(i: Item): None =>
    i.next = first
    first = i
  fun box sum(): U32 =>
    var s: U32 = U32.create(0)
    var at: (Item box | None) = first
    while true do
      match at
      | let i: Item box =>
        s = s + i.n
        at = i.next
      else
        break
      end
    end
    s

actor Counter
  var all: U32 = U32.create(0)
  var kept: (Item | None) = None
  let out: Out
  new create(out': Out) => out = out'
  be take(i: Item iso) =>
    let r: Item = consume i
    r.more()
    all = all + r.n
    kept = r
  be pass(i: Item iso, to: Counter) =>
    all = all + U32.create(1)
    to.take(consume i)
  be tell() => out.print(all.string())

actor Main
  new create(env: Env) =>
    let a: Counter = Counter.create(env.out)
    let b: Counter = Counter.create(env.out)
    let chain: Chain = Chain.create()
    var k: U32 = U32.create(0)
    while k < U32.create(4) do
      k = k + U32.create(1)
      chain.push(Item.create(k))
      a.pass(recover Item.create(k) end, b)
    end
    a.tell()
    b.tell()
    env.out.print(chain.sum().string())
    for s: USize in Range.create(0, env.args.size()) do
      try env.out.print(env.args.apply(s)? + "!") else env.out.print("none") end
    end
    let pair: (U32, String) = (U32.create(1), "a\nb")
    env.out.print(pair._2 + pair._1.string())
    try
      env.out.print((U32.create(1) -? U32.create(2)).string())
    else
      env.out.print("below")
    then
      env.out.print("then")
    end
`

// TestOrdinary: an ordinary program, by several scripts.
func TestOrdinary(t *testing.T) {
	p := parsed(t, ordinary)
	if _, f, e := check.Check(p); e != api.OK {
		t.Fatalf("check: error %d at %v", e, f)
	}
	m := samples.New(20)
	for range 40 {
		var script []int
		for range m.Below(40) {
			script = append(script, m.Below(100)-50)
		}
		if !compare(t, p, []string{"x", "", "é"}, script, 100000) {
			t.Fatal("the run does not come to rest")
		}
	}
	s, end := lower.Run(lowered(t, p), p, []string{"x"}, nil, 100000)
	if want := []string{"10", "x!", "a\nb1", "below", "then", "4", "0"}; end.Kind != meaning.Rest || !slices.Equal(s.Output, want) {
		t.Errorf("the output: %q", s.Output)
	}
}
