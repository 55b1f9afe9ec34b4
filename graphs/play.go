package graphs

import (
	"maps"
	"slices"
	"strconv"
	"strings"

	"hackamore/api"
	"hackamore/num"
	"hackamore/ssa"
	"hackamore/walk"
)

// Value is a value of a play: a number or a Bool, an object, or a tuple.
type Value struct {
	lit    api.Value
	object *object
	kids   []Value
}

type object struct {
	name   string
	fields map[string]Value
}

// Number returns a number as a value.
func Number(n int) Value {
	return Value{lit: api.Value{Kind: api.ValNumber + 6, Lo: uint64(n % 256)}}
}

// Player plays functions: what it knows of calls is their Text and what they are given, and so it decides what they return,
// whether they end with an error, and what they write into objects.
type Player struct {
	Log   []string
	funcs map[string]*ssa.Func
	met   map[*object]int
	fuel  int
}

// Ends of plays.
const (
	Returned = "return "
	Failed   = "error"
	Lost     = "stuck"
	Tired    = "no fuel"
)

// Play plays a function of a program; what came of it, as a text, and all effects, in order.
func Play(p ssa.Program, f ssa.Func, args []Value, fuel int) (string, []string) {
	r := &Player{funcs: make(map[string]*ssa.Func), met: make(map[*object]int), fuel: fuel}
	for i := range p.Funcs {
		r.funcs[p.Funcs[i].Name] = &p.Funcs[i]
	}
	v, end := r.run(&f, args)
	if end == Returned {
		end += r.show(v)
	}
	return end, r.Log
}

// most is how many parts of a value are looked at: tuples of tuples may have very many.
const most = 300

// show returns the text of a value; objects have numbers in the order in which they are met.
func (r *Player) show(v Value) string {
	open := make(map[*object]bool)
	left := most
	var write func(v Value) string
	write = func(v Value) string {
		if left--; left < 0 {
			return "?"
		}
		var parts []string
		for _, k := range v.kids {
			parts = append(parts, write(k))
		}
		o := v.object
		switch {
		case v.kids != nil:
			return "(" + strings.Join(parts, ", ") + ")"
		case o == nil:
			return strconv.Itoa(v.lit.Kind) + ":" + strconv.FormatUint(v.lit.Lo, 10)
		}
		n, ok := r.met[o]
		if !ok {
			n = len(r.met)
			r.met[o] = n
		}
		s := o.name + "#" + strconv.Itoa(n)
		if open[o] {
			return s
		}
		open[o] = true
		for _, name := range slices.Sorted(maps.Keys(o.fields)) {
			parts = append(parts, name+"="+write(o.fields[name]))
		}
		return s + "{" + strings.Join(parts, ", ") + "}"
	}
	return write(v)
}

// activation is a function that is played.
type activation struct {
	*Player
	f      *ssa.Func
	values map[int]Value
	locals map[string]Value
}

func (r *Player) run(f *ssa.Func, args []Value) (Value, string) {
	a := &activation{r, f, make(map[int]Value), make(map[string]Value)}
	for i, v := range args {
		a.values[i] = v
	}
	preds := Preds(f.Blocks)
	at, edge := 0, 0
	for {
		b := &f.Blocks[at]
		if end := a.block(b, edge); end != Returned {
			return Value{}, end
		}
		way := 0
		switch b.End.Kind {
		case ssa.Branch:
			if !isTrue(a.values[b.End.Args[0]]) {
				way = 1
			}
		case ssa.Return:
			return a.values[b.End.Args[0]], Returned
		case ssa.Error:
			return Value{}, Failed
		case ssa.Stuck:
			return Value{}, Lost
		case ssa.Try:
			v, end := a.call(&b.End.Call, true)
			switch end {
			case Failed:
				way = 1
			case Returned:
				a.values[b.End.Call.Result] = v
			default:
				return Value{}, end
			}
		}
		at, edge = b.End.To[way], edgeOf(preds, b.End.To, at, way)
	}
}

// edgeOf returns the index of an edge among those of its target.
func edgeOf(preds [][]int, to []int, from, way int) int {
	k := slices.Index(preds[to[way]], from)
	if way == 1 && to[0] == to[1] {
		k++
	}
	return k
}

func isTrue(v Value) bool { return v.object == nil && v.lit.Lo%2 == 1 }

// block plays the instructions of a block, and returns how this ends.
func (a *activation) block(b *ssa.Block, edge int) string {
	phis := make(map[int]Value)
	for i := range b.Ins {
		x := &b.Ins[i]
		if a.fuel--; a.fuel < 0 {
			return Tired
		}
		if x.Op == ssa.Phi {
			phis[x.Result] = a.values[x.Args[edge]]
			continue
		}
		maps.Copy(a.values, phis)
		v, end := a.do(x)
		if end != Returned {
			return end
		}
		a.values[x.Result] = v
	}
	maps.Copy(a.values, phis)
	if a.fuel--; a.fuel < 0 {
		return Tired
	}
	return Returned
}

// do plays an instruction.
func (a *activation) do(x *ssa.Ins) (Value, string) {
	var l []Value
	for _, v := range x.Args {
		l = append(l, a.values[v])
	}
	switch x.Op {
	case ssa.Const:
		return Value{lit: x.Lit}, Returned
	case ssa.Text, ssa.Make:
		return Value{object: &object{strconv.Itoa(x.Op) + x.Text, make(map[string]Value)}}, Returned
	case ssa.Load:
		return a.locals[x.Text], Returned
	case ssa.Store:
		old := a.locals[x.Text]
		a.locals[x.Text] = l[0]
		return old, Returned
	case ssa.Get, ssa.Set:
		return field(x, l), Returned
	case ssa.Native:
		return native(x.Text, l), Returned
	case ssa.Tuple:
		return Value{kids: l}, Returned
	case ssa.Item:
		if x.N < len(l[0].kids) {
			return l[0].kids[x.N], Returned
		}
		return Value{}, Returned
	case ssa.Is:
		return truth(same(l[0], l[1])), Returned
	case ssa.Fits:
		return truth(l[0].object != nil && strings.HasSuffix(l[0].object.name, x.Type.Name)), Returned
	}
	return a.call(x, false)
}

func field(x *ssa.Ins, l []Value) Value {
	if l[0].object == nil {
		return Value{}
	}
	fields := l[0].object.fields
	old := fields[x.Text]
	if x.Op == ssa.Set {
		fields[x.Text] = l[1]
	}
	return old
}

func native(text string, l []Value) Value {
	typ, method, _ := strings.Cut(text, ".")
	var lits []api.Value
	for _, v := range l {
		lits = append(lits, v.lit)
	}
	v, raised, e := num.Call(typ, method, lits)
	if e != api.OK || raised {
		return Number(0)
	}
	return Value{lit: v}
}

func truth(b bool) Value {
	v := api.Value{Kind: api.ValBool}
	if b {
		v.Lo = 1
	}
	return Value{lit: v}
}

func same(v, w Value) bool {
	left := most
	var equal func(v, w Value) bool
	equal = func(v, w Value) bool {
		if left--; left < 0 {
			return true
		}
		return v.object == w.object && walk.SameValue(v.lit, w.lit) && slices.EqualFunc(v.kids, w.kids, equal)
	}
	return equal(v, w)
}

// call plays a call, a direct call, a spawn or a send.
func (a *activation) call(x *ssa.Ins, mayFail bool) (Value, string) {
	var l []Value
	for _, v := range x.Args {
		l = append(l, a.values[v])
	}
	if f := a.funcs[x.Text]; x.Op == ssa.Direct && f != nil {
		v, end := a.run(f, l)
		if end == Failed && !mayFail {
			end = Lost
		}
		return v, end
	}
	s := strconv.Itoa(x.Op) + " " + x.Text + x.Name
	for _, v := range l {
		s += " " + a.show(v)
	}
	a.Log = append(a.Log, s)
	hash := uint32(len(a.Log))
	for i := range len(s) {
		hash = hash*31 + uint32(s[i])
	}
	for _, v := range l {
		if v.object != nil && hash>>8&1 == 0 {
			v.object.fields["x"] = Number(int(hash >> 16 & 7))
		}
	}
	if mayFail && hash>>4%3 == 0 {
		return Value{}, Failed
	}
	return Number(int(hash >> 5 & 3)), Returned
}
