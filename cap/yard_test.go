package cap_test

import (
	"reflect"
	"slices"
	"testing"

	"hackamore/api"
	. "hackamore/cap"
	"hackamore/samples"
)

func yard(t *testing.T, holders int, acts ...Act) Yard {
	t.Helper()
	y, e := NewYard(holders)
	if e != api.OK {
		t.Fatalf("NewYard of %d: error %d", holders, e)
	}
	for i, a := range acts {
		if y, e = Do(y, a); e != api.OK {
			t.Fatalf("act %d: error %d", i, e)
		}
	}
	return y
}

func act(op, holder int, rest ...int) Act {
	a := [4]int{}
	copy(a[:], rest)
	return Act{op, holder, a[0], a[1], a[2], a[3]}
}

func equal(a, b Yard) bool {
	same := func(a, b []Held) bool { return slices.Equal(a, b) }
	return slices.EqualFunc(a.Holders, b.Holders, same) && slices.EqualFunc(a.Fields, b.Fields, same)
}

// TestNewYard: how many holders there may be.
func TestNewYard(t *testing.T) {
	for n := -1; n < 7; n++ {
		y, e := NewYard(n)
		if right := n >= 1 && n <= 4; right != (e == api.OK) || !right && e != api.ErrRange || len(y.Holders) != max(0, n)*map[bool]int{true: 1}[right] || len(y.Fields) > 0 {
			t.Errorf("NewYard of %d: %v, error %d", n, y, e)
		}
	}
}

// TestExample: the example of the chapter.
func TestExample(t *testing.T) {
	y := yard(t, 2,
		act(Make, 0, api.Ref, api.Ref, api.Iso),
		act(Make, 0, api.Ref, api.Ref, api.Iso),
		act(Write, 0, 0, 0, 1, 1))
	if !slices.Equal(y.Holders[0], []Held{{0, api.Iso}}) || y.Fields[0][0] != (Held{1, api.Ref}) {
		t.Fatalf("behind the write: %v", y)
	}
	if got := Seen(y, 0); !slices.Equal(got, []Held{{0, api.Iso}, {1, api.Tag}}) {
		t.Errorf("Seen: %v", got)
	}
	if _, e := Do(y, act(Read, 0, 0, 0, api.Ref)); e != api.ErrCap {
		t.Errorf("Read as ref through iso: error %d", e)
	}
	y, e := Do(y, act(Move, 0, 0, api.Ref))
	if e != api.OK {
		t.Fatalf("Move: error %d", e)
	}
	y, e = Do(y, act(Read, 0, 0, 0, api.Ref))
	if e != api.OK || !slices.Equal(y.Holders[0], []Held{{0, api.Ref}, {1, api.Ref}}) {
		t.Errorf("Read as ref: %v, error %d", y.Holders, e)
	}
	if _, e := Do(y, act(Give, 0, 0, 1, api.Iso, 1)); e != api.ErrCap {
		t.Errorf("Give as iso: error %d", e)
	}
}

// TestCheck: the errors of yards, and which comes first.
func TestCheck(t *testing.T) {
	held := func(n int, h Held) []Held { return slices.Repeat([]Held{h}, n) }
	things := func(n int) [][]Held { return slices.Repeat([][]Held{held(2, Held{-1, api.Ref})}, n) }
	for i, x := range []struct {
		y    Yard
		want api.Errno
	}{
		{Yard{}, api.ErrSize},
		{Yard{Holders: make([][]Held, 1)}, api.OK},
		{Yard{Holders: make([][]Held, 4), Fields: things(50)}, api.OK},
		{Yard{Holders: make([][]Held, 5)}, api.ErrSize},
		{Yard{Holders: make([][]Held, 1), Fields: things(51)}, api.ErrSize},
		{Yard{Holders: [][]Held{held(20, Held{0, api.Tag})}, Fields: things(1)}, api.OK},
		{Yard{Holders: [][]Held{held(21, Held{0, api.Tag})}, Fields: things(1)}, api.ErrSize},
		{Yard{Holders: make([][]Held, 1), Fields: [][]Held{held(1, Held{-1, api.Ref})}}, api.ErrSize},
		{Yard{Holders: make([][]Held, 1), Fields: [][]Held{held(3, Held{-1, api.Ref})}}, api.ErrSize},
		{Yard{Holders: [][]Held{held(1, Held{0, 0})}, Fields: things(1)}, api.ErrCap},
		{Yard{Holders: [][]Held{held(1, Held{0, 7})}, Fields: things(1)}, api.ErrCap},
		{Yard{Holders: make([][]Held, 1), Fields: [][]Held{held(2, Held{-1, 0})}}, api.ErrCap},
		{Yard{Holders: [][]Held{held(1, Held{1, api.Tag})}, Fields: things(1)}, api.ErrRange},
		{Yard{Holders: [][]Held{held(1, Held{-1, api.Tag})}, Fields: things(1)}, api.ErrRange},
		{Yard{Holders: make([][]Held, 1), Fields: [][]Held{held(2, Held{-2, api.Ref})}}, api.ErrRange},
		{Yard{Holders: make([][]Held, 1), Fields: [][]Held{held(2, Held{1, api.Ref})}}, api.ErrRange},
		{Yard{Holders: make([][]Held, 1), Fields: [][]Held{held(2, Held{0, api.Ref})}}, api.OK},
		{Yard{Holders: [][]Held{held(1, Held{9, api.Tag})}, Fields: [][]Held{held(2, Held{-1, 0})}}, api.ErrCap},
		{Yard{Holders: [][]Held{held(1, Held{9, 0})}, Fields: [][]Held{held(1, Held{-1, 0})}}, api.ErrSize},
	} {
		if got := Check(x.y); got != x.want {
			t.Errorf("%d: error %d, want %d", i, got, x.want)
		}
		y, e := Do(x.y, act(Make, 0, api.Ref, api.Ref, api.Ref))
		if x.want != api.OK && (e != x.want || !equal(y, Yard{})) {
			t.Errorf("%d: Do: %v, error %d, want %d", i, y, e, x.want)
		}
		if _, _, _, found := Race(x.y); x.want != api.OK && (found || len(Seen(x.y, 0)) > 0) {
			t.Errorf("%d: something is seen in a yard with an error", i)
		}
	}
}

// TestErrors: the errors of acts (P7.1), which change nothing (P7.7).
func TestErrors(t *testing.T) {
	start := yard(t, 2,
		act(Make, 0, api.Ref, api.Iso, api.Ref), // thing 0: ref
		act(Make, 0, api.Val, api.Tag, api.Iso), // thing 1: iso
		act(Make, 0, api.Box, api.Trn, api.Trn), // thing 2: trn
		act(Copy, 0, 0, api.Tag))                // 3: thing 0 as tag
	before := clone(start)
	for i, x := range []struct {
		a    Act
		want api.Errno
	}{
		{act(Make, 2, api.Ref, api.Ref, api.Ref), api.ErrRange},
		{act(Make, -1, api.Ref, api.Ref, api.Ref), api.ErrRange},
		{act(7, 0), api.ErrArg}, {act(-1, 0), api.ErrArg}, {act(7, 2), api.ErrRange},
		{act(Make, 0, 0, api.Ref, api.Ref), api.ErrCap}, {act(Make, 0, api.Ref, 7, api.Ref), api.ErrCap}, {act(Make, 0, api.Ref, api.Ref, 11), api.ErrCap},
		{act(Copy, 0, 4, api.Tag), api.ErrRange}, {act(Copy, 0, -1, api.Tag), api.ErrRange}, {act(Copy, 1, 0, api.Tag), api.ErrRange},
		{act(Copy, 0, 1, api.Iso), api.ErrCap}, {act(Copy, 0, 1, api.Tag), api.OK}, {act(Copy, 0, 2, api.Box), api.OK},
		{act(Copy, 0, 2, api.Trn), api.ErrCap}, {act(Copy, 0, 0, 0), api.ErrCap}, {act(Copy, 0, 0, api.Ref), api.OK},
		{act(Move, 0, 4, api.Tag), api.ErrRange}, {act(Move, 0, 0, api.Val), api.ErrCap}, {act(Move, 0, 1, api.Val), api.OK},
		{act(Move, 0, 2, api.Val), api.OK}, {act(Move, 0, 2, api.Iso), api.ErrCap}, {act(Move, 0, 1, 12), api.ErrCap},
		{act(Read, 0, 9, 0, api.Tag), api.ErrRange}, {act(Read, 0, 0, 2, api.Tag), api.ErrRange}, {act(Read, 0, 0, -1, api.Tag), api.ErrRange},
		{act(Read, 0, 3, 0, api.Tag), api.ErrCap}, {act(Read, 0, 0, 0, api.Tag), api.ErrNone}, {act(Read, 0, 0, 0, 0), api.ErrNone},
		{act(Write, 0, 9, 0, 0), api.ErrRange}, {act(Write, 0, 0, 2, 0), api.ErrRange}, {act(Write, 0, 0, 0, 9), api.ErrRange},
		{act(Write, 0, 0, 0, 0, 2), api.ErrArg}, {act(Write, 0, 0, 0, 0, 1), api.ErrArg}, {act(Write, 0, 0, 0, 0, -1), api.ErrArg},
		{act(Write, 0, 0, 0, 9, 2), api.ErrRange}, {act(Write, 0, 0, 0, 0), api.OK}, {act(Write, 0, 0, 1, 0), api.ErrCap},
		{act(Write, 0, 0, 1, 1), api.ErrCap}, {act(Write, 0, 0, 1, 1, 1), api.OK}, {act(Write, 0, 3, 0, 0), api.ErrCap},
		{act(Write, 0, 2, 0, 0), api.ErrCap}, {act(Write, 0, 2, 0, 1, 1), api.OK}, {act(Write, 0, 1, 1, 0), api.ErrCap},
		{act(Write, 0, 1, 1, 3), api.OK}, {act(Write, 0, 1, 1, 2, 1), api.ErrCap}, {act(Write, 0, 1, 0, 0), api.ErrCap},
		{act(Give, 0, 0, 2, api.Tag), api.ErrRange}, {act(Give, 0, 0, -1, api.Tag), api.ErrRange}, {act(Give, 0, 0, 0, api.Tag), api.ErrArg},
		{act(Give, 0, 9, 0, api.Tag), api.ErrArg}, {act(Give, 0, 9, 1, api.Tag), api.ErrRange}, {act(Give, 0, 9, 1, api.Tag, 5), api.ErrRange},
		{act(Give, 0, 0, 1, api.Tag, 2), api.ErrArg}, {act(Give, 0, 0, 1, api.Ref), api.ErrCap}, {act(Give, 0, 0, 1, api.Val), api.ErrCap},
		{act(Give, 0, 0, 1, api.Tag), api.OK}, {act(Give, 0, 1, 1, api.Iso), api.ErrCap}, {act(Give, 0, 1, 1, api.Iso, 1), api.OK},
		{act(Give, 0, 2, 1, api.Val, 1), api.OK}, {act(Give, 0, 2, 1, api.Val), api.ErrCap}, {act(Give, 0, 1, 1, api.Box, 1), api.ErrCap},
		{act(Drop, 0, 4), api.ErrRange}, {act(Drop, 0, -1), api.ErrRange}, {act(Drop, 0, 3), api.OK},
	} {
		y, e := Do(start, x.a)
		if e != x.want || e != api.OK && !equal(y, Yard{}) {
			t.Errorf("%d: %v: %v, error %d, want %d", i, x.a, y, e, x.want)
		}
	}
	if !equal(start, before) {
		t.Error("an act has changed the yard that was handed in")
	}
}

func clone(y Yard) Yard {
	c := Yard{slices.Clone(y.Holders), slices.Clone(y.Fields)}
	for i := range c.Holders {
		c.Holders[i] = slices.Clone(c.Holders[i])
	}
	for i := range c.Fields {
		c.Fields[i] = slices.Clone(c.Fields[i])
	}
	return c
}

// TestActs: what acts change, and where new references stand.
func TestActs(t *testing.T) {
	y := yard(t, 2,
		act(Make, 0, api.Iso, api.Trn, api.Ref),
		act(Make, 0, api.Ref, api.Ref, api.Iso),
		act(Make, 0, api.Ref, api.Ref, api.Iso),
		act(Write, 0, 0, 0, 1, 1), // thing 1 into the iso field
		act(Write, 0, 0, 0, 1, 1)) // thing 2 in its place: thing 1 comes back
	if !slices.Equal(y.Holders[0], []Held{{0, api.Ref}, {1, api.Iso}}) || y.Fields[0][0] != (Held{2, api.Iso}) {
		t.Fatalf("behind two writes: %v", y)
	}
	y, e := Do(y, act(Read, 0, 0, 0, api.Tag))
	if e != api.OK || y.Holders[0][2] != (Held{2, api.Tag}) {
		t.Errorf("Read: %v, error %d", y.Holders, e)
	}
	y, e = Do(y, act(Give, 0, 1, 1, api.Val, 1))
	if e != api.OK || !slices.Equal(y.Holders[0], []Held{{0, api.Ref}, {2, api.Tag}}) || !slices.Equal(y.Holders[1], []Held{{1, api.Val}}) {
		t.Errorf("Give: %v, error %d", y.Holders, e)
	}
	y, e = Do(y, act(Drop, 0, 0))
	if e != api.OK || !slices.Equal(y.Holders[0], []Held{{2, api.Tag}}) {
		t.Errorf("Drop: %v, error %d", y.Holders, e)
	}
}

// TestFull: the limits of references and things.
func TestFull(t *testing.T) {
	y := yard(t, 2)
	for i := range MaxHeld {
		y = yard2(t, y, act(Make, 0, api.Ref, api.Ref, api.Ref))
		if i == 0 {
			y = yard2(t, y, act(Write, 0, 0, 0, 0))
		}
	}
	for _, a := range []Act{act(Make, 0, api.Ref, api.Ref, api.Ref), act(Copy, 0, 0, api.Ref), act(Read, 0, 0, 0, api.Ref), act(Write, 0, 0, 0, 0)} {
		if got, e := Do(y, a); e != api.ErrFull || !equal(got, Yard{}) {
			t.Errorf("%v: error %d", a, e)
		}
	}
	if _, e := Do(y, act(Write, 0, 0, 0, 1, 1)); e != api.OK {
		t.Errorf("a write that gives one up, and gets one: error %d", e)
	}
	if _, e := Do(y, act(Copy, 0, 0, api.Iso)); e != api.ErrCap {
		t.Errorf("ErrCap ahead of ErrFull: error %d", e)
	}
	for range MaxHeld {
		y = yard2(t, y, act(Give, 0, 0, 1, api.Tag, 1))
	}
	y = yard2(t, y, act(Make, 0, api.Ref, api.Ref, api.Ref))
	if _, e := Do(y, act(Give, 0, 0, 1, api.Tag, 1)); e != api.ErrFull {
		t.Errorf("Give to one that has its fill: error %d", e)
	}
	for len(y.Fields) < MaxThings {
		y = yard2(t, y, act(Make, 0, api.Ref, api.Ref, api.Ref), act(Drop, 0, 0))
	}
	if _, e := Do(y, act(Make, 0, api.Ref, api.Ref, api.Ref)); e != api.ErrFull {
		t.Errorf("one thing more than may be: error %d", e)
	}
}

func yard2(t *testing.T, y Yard, acts ...Act) Yard {
	t.Helper()
	var e api.Errno
	for _, a := range acts {
		if y, e = Do(y, a); e != api.OK {
			t.Fatalf("%v: error %d", a, e)
		}
	}
	return y
}

// TestSeenAndRace: what is seen through fields, in circles, too, and races in yards that were not made by acts.
func TestSeenAndRace(t *testing.T) {
	y := Yard{
		Holders: [][]Held{{{1, api.Ref}, {0, api.Val}, {1, api.Ref}}, {{2, api.Box}}, {{2, api.Tag}}},
		Fields:  [][]Held{{{1, api.Trn}, {-1, api.Ref}}, {{2, api.Ref}, {0, api.Box}}, {{1, api.Ref}, {2, api.Iso}}},
	}
	want := []Held{{0, api.Val}, {0, api.Box}, {1, api.Ref}, {1, api.Val}, {1, api.Box}, {1, api.Tag}, {2, api.Iso}, {2, api.Ref}, {2, api.Val}, {2, api.Box}, {2, api.Tag}}
	if got := Seen(y, 0); !slices.Equal(got, want) {
		t.Errorf("Seen: %v, want %v", got, want)
	}
	if got := Seen(y, 2); !slices.Equal(got, []Held{{2, api.Tag}}) {
		t.Errorf("Seen through tag: %v", got)
	}
	if Seen(y, 3) != nil || Seen(y, -1) != nil {
		t.Error("no holder sees something")
	}
	if thing, w, r, found := Race(y); thing != 1 || w != 0 || r != 1 || !found {
		t.Errorf("Race: %d, %d, %d, %v", thing, w, r, found)
	}
	y.Holders[1], y.Holders[2] = []Held{{2, api.Tag}}, []Held{{0, api.Box}, {2, api.Ref}}
	if thing, w, r, found := Race(y); thing != 1 || w != 0 || r != 2 || !found {
		t.Errorf("Race: %d, %d, %d, %v", thing, w, r, found)
	}
	y.Holders[2] = nil
	if thing, w, r, found := Race(y); thing != 0 || w != 0 || r != 0 || found {
		t.Errorf("no Race: %d, %d, %d, %v", thing, w, r, found)
	}
}

// changed reports whether an act has changed anything but the two holders and the fields that it names.
func changed(a, b Yard, x Act) bool {
	for i := range a.Holders {
		if i != x.Holder && !(x.Op == Give && i == x.B) && !slices.Equal(a.Holders[i], b.Holders[i]) {
			return true
		}
	}
	for i := range a.Fields {
		for j := range a.Fields[i] {
			if a.Fields[i][j] != b.Fields[i][j] && (x.Op != Write || a.Holders[x.Holder][x.A].Thing != i || x.B != j || a.Fields[i][j].Cap != b.Fields[i][j].Cap) {
				return true
			}
		}
	}
	return len(b.Fields) != len(a.Fields)+map[bool]int{true: 1}[x.Op == Make]
}

// safe checks P7.6 in a yard.
func safe(t *testing.T, y Yard) {
	t.Helper()
	if thing, w, r, found := Race(y); found {
		t.Fatalf("a race at %d of %d and %d: %v", thing, w, r, y)
	}
	for i, l := range y.Holders {
		for at, h := range l {
			for j, others := range y.Holders {
				for to, o := range others {
					if o.Thing != h.Thing || i == j && at == to {
						continue
					}
					if i == j && !Local(h.Cap, o.Cap) || i != j && !Global(h.Cap, o.Cap) {
						t.Fatalf("%d has %v, %d has %v: %v", i, h, j, o, y)
					}
				}
				for _, o := range Seen(y, j) {
					itself := i == j && o == h
					if o.Thing == h.Thing && !itself && (h.Cap == api.Iso && o.Cap != api.Tag || h.Cap == api.Trn && Writes(o.Cap)) {
						t.Fatalf("%d has %v, %d sees %v: %v", i, h, j, o, y)
					}
				}
			}
		}
	}
}

// TestNoRace: P7.6 and P7.7 for acts by chance.
func TestNoRace(t *testing.T) {
	done := map[int]int{}
	for seed := range uint64(1500) {
		m := samples.New(seed)
		y := yard(t, 1+m.Below(3))
		for range 150 {
			a := Act{m.Below(9) % 7, m.Below(len(y.Holders)), m.Below(5), m.Below(3), m.Below(4), m.Below(2)}
			if m.Below(3) > 0 { // fields are filled, and read
				a.Op = Read + m.Below(2)
			}
			if a.Op == Make {
				a.A, a.B, a.C = 1+m.Below(6), 1+m.Below(6), 1+m.Below(6)
			} else if a.Op == Copy || a.Op == Move {
				a.B = 1 + m.Below(6)
			} else if a.Op == Read || a.Op == Give {
				a.C = 1 + m.Below(6)
			}
			before := clone(y)
			next, e := Do(y, a)
			if !equal(y, before) {
				t.Fatalf("%v has changed the yard", a)
			}
			if e != api.OK {
				continue
			}
			done[a.Op]++
			if changed(y, next, a) {
				t.Fatalf("%v has changed more than it names: %v to %v", a, y, next)
			}
			y = next
			safe(t, y)
		}
	}
	for op := range 7 {
		if done[op] < 150 {
			t.Errorf("the act %d was done only %d times", op, done[op])
		}
	}
	if again := yard(t, 1); !reflect.DeepEqual(again, yard(t, 1)) {
		t.Error("two new yards differ")
	}
}
