package optimize

import (
	"slices"
	"strings"

	"hackamore/api"
	"hackamore/blocks"
	"hackamore/num"
	"hackamore/ssa"
	"hackamore/walk"
)

// copies finds phis and items that are other values; then it drops what nobody needs.
func (e *editor) copies() {
	for again := true; again; {
		again = false
		for x := range e.alive() {
			b := e.source(x)
			if b == noneOfThem {
				continue
			}
			if e.isUsed(x) {
				e.record(Step{Kind: StepCopy, A: x.Result, B: b})
				e.names[x.Result] = b
			}
			e.record(Step{Kind: StepDrop, A: x.Result})
			x.Op = gone
			again = true
		}
	}
	e.drop()
}

// isUsed reports whether the value of an instruction is among the Args of anything else.
func (e *editor) isUsed(x *ssa.Ins) bool {
	isIt := func(v int) bool { return e.find(v) == x.Result }
	for _, y := range blocks.All(e.f) {
		if y != x && y.Op != gone && slices.ContainsFunc(y.Args, isIt) {
			return true
		}
	}
	return slices.ContainsFunc(e.f.Blocks, func(b ssa.Block) bool { return slices.ContainsFunc(b.End.Args, isIt) })
}

// source returns the value that the one of a phi or an item is.
func (e *editor) source(x *ssa.Ins) int {
	found := noneOfThem
	switch x.Op {
	case ssa.Phi:
		for _, v := range x.Args {
			if v = e.find(v); v == x.Result || v == found {
				continue
			}
			if found != noneOfThem {
				return noneOfThem
			}
			found = v
		}
	case ssa.Item:
		if t := e.operand(x.Args[0], ssa.Tuple); t != nil && x.N < len(t.Args) {
			found = e.find(t.Args[x.N])
		}
	}
	return found
}

// fold finds what is known of instructions over constants, and of branches.
func (e *editor) fold() {
again:
	for {
		e.constants()
		for i := range e.f.Blocks {
			if way := e.decided(i); way != noneOfThem {
				e.record(Step{Kind: StepBranch, A: i, B: way})
				e.cut(i, way)
				e.begin()
				continue again
			}
		}
		return
	}
}

// constants finds the instructions over constants.
func (e *editor) constants() {
	for again := true; again; {
		again = false
		for x := range e.alive() {
			lit, ok := e.known(x)
			if !ok {
				continue
			}
			e.record(Step{Kind: StepFold, A: x.Result, Lit: lit})
			*x = ssa.Ins{Op: ssa.Const, Result: x.Result, Type: x.Type, Lit: walk.Value(lit)}
			again = true
		}
	}
}

// known returns what a native or an is over constants gives.
func (e *editor) known(x *ssa.Ins) (api.Value, bool) {
	if x.Op != ssa.Native && x.Op != ssa.Is {
		return api.Value{}, false
	}
	var lits []api.Value
	for _, v := range x.Args {
		c := e.operand(v, ssa.Const)
		if c == nil {
			return api.Value{}, false
		}
		lits = append(lits, c.Lit)
	}
	if x.Op == ssa.Is {
		return truth(walk.SameValue(lits[0], lits[1])), true
	}
	typ, method, ok := strings.Cut(x.Text, ".")
	v, raised, wrong := num.Call(typ, method, lits)
	return v, ok && !raised && wrong == api.OK
}

func truth(is bool) api.Value {
	v := api.Value{Kind: api.ValBool}
	if is {
		v.Lo = 1
	}
	return v
}

// dead drops what nobody needs, and joins blocks, as long as there is something to do: a phi of itself and of one in a block
// that joins another one is needed by nobody then.
func (e *editor) dead() {
	for before := -1; before < len(e.steps); {
		before = len(e.steps)
		e.drop()
		e.flush()
		e.joinAll()
	}
}

// joinAll joins blocks.
func (e *editor) joinAll() {
	for i := 0; i < len(e.f.Blocks); {
		to := e.next(i)
		if to == noneOfThem {
			i++
			continue
		}
		e.record(Step{Kind: StepJoin, A: i})
		e.join(i, to)
		e.flush()
		if to < i {
			i--
		}
	}
}

// drop drops what nobody needs, one value after the other.
func (e *editor) drop() {
	uses := make(map[int]int)
	for _, x := range blocks.All(e.f) {
		if x.Op == gone {
			continue
		}
		for _, v := range x.Args {
			if v = e.find(v); v != x.Result {
				uses[v]++
			}
		}
	}
	for _, b := range e.f.Blocks {
		for _, v := range b.End.Args {
			uses[e.find(v)]++
		}
	}
	var work []*ssa.Ins
	for x := range e.alive() {
		if uses[x.Result] == 0 && mayBeDropped(x) {
			work = append(work, x)
		}
	}
	for len(work) > 0 {
		x := work[0]
		work = work[1:]
		e.record(Step{Kind: StepDrop, A: x.Result})
		x.Op = gone
		for _, v := range x.Args {
			if v = e.find(v); v == x.Result {
				continue
			}
			uses[v]--
			if y := e.made[v]; uses[v] == 0 && y != nil && mayBeDropped(y) {
				work = append(work, y)
			}
		}
	}
}

// isPure reports whether an instruction has no effect, and always gives the same for the same.
func isPure(x *ssa.Ins) bool {
	switch x.Op {
	case ssa.Const, ssa.Native, ssa.Tuple, ssa.Item, ssa.Is, ssa.Fits:
		return true
	}
	return false
}

func mayBeDropped(x *ssa.Ins) bool {
	switch x.Op {
	case ssa.Text, ssa.Phi, ssa.Load, ssa.Get, ssa.Make:
		return true
	}
	return isPure(x)
}

// direct finds the calls that can reach one function alone.
func (e *editor) direct() {
	for _, x := range blocks.All(e.f) {
		if x.Op != ssa.Call {
			continue
		}
		name, ok := e.target(e.typ(x.Args[0]), x.Text)
		if !ok || len(e.Funcs[e.numbers[name]].Params) != len(x.Args) {
			continue
		}
		e.record(Step{Kind: StepDirect, A: x.Result, Text: name})
		x.Op, x.Text = ssa.Direct, name
	}
}

// target returns the one function that a call of a method can reach, for a value of a type.
func (e *editor) target(t api.Type, method string) (string, bool) {
	l, wrong := e.finder.Methods(t, method)
	if wrong != api.OK || len(l) != 1 {
		return "", false
	}
	_, ok := e.numbers[l[0]]
	return l[0], ok
}

// escaping returns the values that are met by anything that may hand them on.
func (e *editor) escaping() map[int]bool {
	met := make(map[int]bool)
	meet := func(l []int) {
		for _, v := range l {
			met[e.find(v)] = true
		}
	}
	for _, x := range blocks.All(e.f) {
		switch x.Op {
		case ssa.Get, ssa.Is, ssa.Fits, gone:
		case ssa.Set:
			meet(x.Args[1:])
		default:
			meet(x.Args)
		}
	}
	for _, b := range e.f.Blocks {
		meet(b.End.Args)
	}
	return met
}

// stack finds objects that may stay on the stack.
func (e *editor) stack() {
	escaping := e.escaping()
	for x := range e.alive() {
		if x.Op == ssa.Make && !x.Flag && !escaping[x.Result] {
			e.record(Step{Kind: StepStack, A: x.Result})
			x.Flag = true
		}
	}
}

// forward finds what fields have that were written or read ahead in their blocks.
func (e *editor) forward() {
	type slot struct {
		object int
		field  string
	}
	escaping := e.escaping()
	for i := range e.f.Blocks {
		known := make(map[slot]int)
		l := e.f.Blocks[i].Ins
		for j := range l {
			x := &l[j]
			if x.Op != ssa.Get && x.Op != ssa.Set {
				continue
			}
			at := slot{e.find(x.Args[0]), x.Text}
			if escaping[at.object] || e.operand(at.object, ssa.Make) == nil {
				continue
			}
			v, ok := known[at]
			switch {
			case x.Op == ssa.Set:
				known[at] = e.find(x.Args[1])
			case ok:
				e.record(Step{Kind: StepField, A: x.Result, B: v})
				e.names[x.Result] = v
				x.Op = gone
			default:
				known[at] = x.Result
			}
		}
	}
}
