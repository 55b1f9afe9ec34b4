package witness_test

import (
	"slices"
	"testing"

	"hackamore/api"
	"hackamore/cells"
	"hackamore/check"
	"hackamore/generic"
	"hackamore/lower"
	"hackamore/meaning"
	"hackamore/names"
	"hackamore/optimize"
	"hackamore/samples"
	"hackamore/ssa"
	"hackamore/subtype"
	"hackamore/witness"
	"hackamore/world"
)

// reified returns the reified program of a text.
func reified(t *testing.T, text string) []api.Entity {
	t.Helper()
	p, e := names.Program(map[string]string{"main": text}, nil)
	if e != api.OK {
		t.Fatalf("the program: error %d", e)
	}
	if p, e = generic.Reify(p, "main.Main"); e != api.OK {
		t.Fatalf("reified: error %d", e)
	}
	return p
}

const objects = `
trait Shape
  fun area(): U32
class Square is Shape
  var n: U32
  new create(n': U32) => n = n'
  fun area(): U32 => n * n
class Flat is Shape
  new create() => None
  fun area(): U32 => U32.create(0)
class val Name
  new val create() => None
  fun box string(): String val => "name"
class Pair
  var a: U32 = U32.create(3)
  var b: (Shape | None) = None
  new create() => None
  fun ref turn(x: U32): U32 => a = x
  fun sum(): U32 =>
    match b
    | let s: Shape box => s.area() + a
    else
      a
    end
  fun may(x: U32): U32 ? => if x > a then error else x end
actor Logger
  let out: Out
  var n: U32 = U32.create(0)
  new create(o: Out) => out = o
  be log(x: U32) =>
    n = n + U32.create(1)
    out.print(n.string() + ":" + x.string())
actor Main
  new create(env: Env) =>
    let l: Logger = Logger.create(env.out)
    let p: Pair = Pair.create()
    var x: Name val = Name.create()
    let y: Name val = x
    env.out.print((x = y).string())
    var i: U32 = U32.create(0)
    while i < U32.create(6) do
      let q: Square = Square.create(i)
      l.log(q.area())
      let z: Square = Square.create(i + U32.create(1))
      z.n = z.n + U32.create(1)
      if U32.create(1) < U32.create(2) then l.log(z.area()) end
      p.turn(i + U32.create(2))
      p.b = if i == U32.create(3) then Flat.create() else q end
      l.log(p.sum())
      try l.log(p.may(i * U32.create(2))?) else l.log(U32.create(99)) then l.log(U32.create(2) * U32.create(5)) end
      i = i + U32.create(1)
    end
`

// TestGreatLaw: a program that the checker takes does the same behind the passes of every level, and any others.
func TestGreatLaw(t *testing.T) {
	p := reified(t, objects)
	if _, f, e := check.Check(p); e != api.OK {
		t.Fatalf("check: error %d at %v", e, f)
	}
	kinds := map[int]int{}
	m := samples.New(225)
	for i := range 24 {
		passes := optimize.Usual(i)
		for i > 3 && len(passes) < 18 {
			passes = append(passes[:len(passes):len(passes)], 1+m.Below(optimize.Passes))
		}
		sameRun(t, p, passes, kinds)
	}
	for kind := 1; kind <= optimize.StepCount; kind++ {
		if kinds[kind] == 0 {
			t.Errorf("steps %v", kinds)
		}
	}
}

// TestGreatLawOfBodies: bodies made by numbers that the checker takes.
func TestGreatLawOfBodies(t *testing.T) {
	checked, p := reified(t, cells.Text), reified(t, cells.Calling())
	i, _ := subtype.Find(checked, cells.Entity)
	j := slices.IndexFunc(checked[i].Methods, func(m api.Method) bool { return m.Name == cells.Method })
	k, _ := subtype.Find(p, cells.Entity)
	l := slices.IndexFunc(p[k].Methods, func(m api.Method) bool { return m.Name == cells.Method })
	kinds, runs := map[int]int{}, 0
	for seed := range uint64(160) {
		body := cells.New(seed+226, 0).Body(5)
		checked[i].Methods[j].Body = body
		if _, _, e := check.Method(checked, i, j); e != api.OK {
			continue
		}
		p[k].Methods[l].Body = body
		if sameRun(t, p, optimize.Usual(1+int(seed%3)), kinds) {
			runs++
		}
	}
	if runs < 40 {
		t.Errorf("%d runs", runs)
	}
}

// sameRun runs a program by the interpreter, and by its functions behind passes; false, if it does not come to rest.
func sameRun(t *testing.T, p []api.Entity, passes []int, kinds map[int]int) bool {
	t.Helper()
	f, e := lower.Lower(p)
	if e != api.OK {
		t.Fatalf("Lower: error %d", e)
	}
	q, steps, e := optimize.Run(f, passes)
	if e != api.OK {
		t.Fatalf("Run: error %d", e)
	}
	if n, e := witness.Check(f, q, steps); e != api.OK {
		t.Fatalf("%v: the step %d: error %d", passes, n, e)
	}
	for _, s := range steps {
		kinds[s.Kind]++
	}
	rests := false
	for _, script := range [][]int{nil, {1, 2, 3, 1, 2, 3}, {-1, 5, -7, 2}} {
		s, end := meaning.Run(p, nil, script, 5000)
		if end.Kind != meaning.Rest {
			continue
		}
		rests = true
		r, end := lower.Run(q, p, nil, script, api.MaxFuel)
		if end.Kind != meaning.Rest || !alike(r.Trace, s.Trace) || !slices.Equal(r.Output, s.Output) || dump(t, r) != dump(t, s) {
			text, _ := ssa.Print(q.Funcs)
			t.Fatalf("%v: %v %q, not %q\n%s", passes, end, r.Output, s.Output, text)
		}
	}
	return rests
}

func dump(t *testing.T, s world.State) string {
	t.Helper()
	w, e := world.Load(s)
	if e != api.OK {
		t.Fatalf("a state that is not right: error %d", e)
	}
	return w.Dump()
}
