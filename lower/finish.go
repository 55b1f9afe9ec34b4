package lower

import (
	"slices"

	"hackamore/api"
	"hackamore/num"
	"hackamore/ssa"
)

// finish returns the function, whose local variables become values.
func (b *builder) finish() (ssa.Func, api.Errno) {
	b.forget()
	b.tell()
	b.prepare()
	f, e := ssa.Promote(b.f)
	if e != api.OK {
		return ssa.Func{}, ErrLower
	}
	b.intrinsic(&f)
	sweep(&f)
	if f, e = ssa.Clean(f); e != api.OK {
		return ssa.Func{}, ErrLower
	}
	return f, api.OK
}

// forget takes out the stores that say that there is nothing in a variable, if nobody asks for what it had.
func (b *builder) forget() {
	for i := range b.f.Blocks {
		l := &b.f.Blocks[i].Ins
		*l = slices.DeleteFunc(*l, func(x ssa.Ins) bool {
			v, ok := b.clears[x.Result]
			return ok && !v.old
		})
	}
}

// tell gives the stores the types of their variables.
func (b *builder) tell() {
	for i := range b.f.Blocks {
		for j := range b.f.Blocks[i].Ins {
			if x := &b.f.Blocks[i].Ins[j]; x.Op == ssa.Store {
				x.Type = b.variables[x.Text].typ
			}
		}
	}
}

// prepare stores None, at the beginning, in the variables that may be read before they are stored.
func (b *builder) prepare() {
	asked := b.asked()
	if len(asked) == 0 {
		return
	}
	b.at = 0
	rest := b.f.Blocks[0].Ins
	b.f.Blocks[0].Ins = nil
	none := b.none()
	for _, name := range asked {
		b.store(b.variables[name], none)
	}
	b.f.Blocks[0].Ins = append(b.f.Blocks[0].Ins, rest...)
}

// asked returns the variables that may be read before they are stored, in the order of their names in the blocks.
func (b *builder) asked() []string {
	used := make(map[int]bool)
	preds := make([][]int, len(b.f.Blocks))
	for i, x := range b.f.Blocks {
		for _, y := range x.Ins {
			for _, v := range y.Args {
				used[v] = true
			}
		}
		for _, v := range slices.Concat(x.End.Args, x.End.Call.Args) {
			used[v] = true
		}
		for _, to := range x.End.To {
			preds[to] = append(preds[to], i)
		}
	}
	type place struct {
		block int
		name  string
	}
	stored, needed := make(map[place]bool), make(map[place]bool)
	var work []place
	for i, x := range b.f.Blocks {
		for _, y := range x.Ins {
			at := place{i, y.Text}
			if (y.Op == ssa.Load || y.Op == ssa.Store && used[y.Result]) && !stored[at] {
				work = append(work, at)
			}
			if y.Op == ssa.Store {
				stored[at] = true
			}
		}
	}
	var l []string
	for len(work) > 0 {
		at := work[0]
		work = work[1:]
		if needed[at] {
			continue
		}
		needed[at] = true
		if at.block == 0 {
			l = append(l, at.name)
		}
		for _, p := range preds[at.block] {
			if ahead := (place{p, at.name}); !stored[ahead] {
				work = append(work, ahead)
			}
		}
	}
	return l
}

// unknown is what a value may turn out to be; anything is what is neither a number nor a Bool for certain.
const unknown, anything = "?", ""

// intrinsic makes natives of the calls whose receivers and arguments are numbers or Bools for certain.
func (b *builder) intrinsic(f *ssa.Func) {
	kinds := make(map[int]string) // the types of values that are numbers or Bools
	for _, x := range f.Blocks {
		for _, y := range x.Ins {
			if y.Op == ssa.Phi || y.Op == ssa.Call {
				kinds[y.Result] = unknown
			}
		}
	}
rounds:
	for {
		stable := true
		for _, x := range f.Blocks {
			for i := range x.Ins {
				y := &x.Ins[i]
				kind := b.kind(y, kinds)
				stable = stable && kinds[y.Result] == kind
				kinds[y.Result] = kind
			}
		}
		if stable {
			break rounds
		}
	}
	for _, x := range f.Blocks {
		for i := range x.Ins {
			y := &x.Ins[i]
			if result := kinds[y.Result]; y.Op == ssa.Call && result != unknown && result != anything {
				y.Op, y.Text, y.Type = ssa.Native, kinds[y.Args[0]]+"."+y.Text, named(result, api.Val)
			}
		}
	}
}

// kind returns the type of the number or the Bool that an instruction makes, by what is known of its Args.
func (b *builder) kind(x *ssa.Ins, kinds map[int]string) string {
	switch x.Op {
	case ssa.Const:
		return kindOf(x.Lit)
	case ssa.Is, ssa.Fits:
		return "Bool"
	case ssa.Phi:
		all := unknown
		for _, v := range x.Args {
			if k := kinds[v]; k != unknown && all == unknown {
				all = k
			} else if k != unknown && k != all {
				return anything
			}
		}
		return all
	case ssa.Call:
		return b.returnedBy(x, kinds)
	}
	return anything
}

func kindOf(v api.Value) string {
	if num.Check(v) != api.OK {
		return anything
	}
	if v.Kind == api.ValBool {
		return "Bool"
	}
	name, _ := num.Name(v.Kind)
	return name
}

// returnedBy returns the type of what a method of a number, or a Bool, returns that never fails and has no effect.
func (b *builder) returnedBy(x *ssa.Ins, kinds map[int]string) string {
	for _, v := range x.Args {
		if kinds[v] == unknown {
			return unknown
		}
	}
	typ := kinds[x.Args[0]]
	m, ok := b.natives[typ][x.Text]
	if !ok || m.Partial || m.Result == "String" || len(m.Params) != len(x.Args)-1 {
		return anything
	}
	for i, p := range m.Params {
		if kinds[x.Args[i+1]] != p {
			return anything
		}
	}
	if own := b.method(typ, x.Text); own != nil && (own.Body.Op != 0 || own.Kind == api.Be) {
		return anything
	}
	return m.Result
}

// sweep takes out what is made for nothing.
func sweep(f *ssa.Func) {
	uses := make(map[int]int)
	count := func(x *ssa.Ins, n int) {
		for _, v := range x.Args {
			if v != x.Result {
				uses[v] += n
			}
		}
	}
	for i := range f.Blocks {
		b := &f.Blocks[i]
		for j := range b.Ins {
			count(&b.Ins[j], 1)
		}
		for _, v := range slices.Concat(b.End.Args, b.End.Call.Args) {
			uses[v]++
		}
	}
	for again := true; again; {
		again = false
		for i := range f.Blocks {
			l := &f.Blocks[i].Ins
			*l = slices.DeleteFunc(*l, func(x ssa.Ins) bool {
				idle := isIdleIns(&x) && uses[x.Result] == 0
				if idle {
					count(&x, -1)
					again = true
				}
				return idle
			})
		}
	}
}

func isIdleIns(x *ssa.Ins) bool {
	switch x.Op {
	case ssa.Const, ssa.Phi, ssa.Tuple, ssa.Is, ssa.Fits, ssa.Text:
		return true
	case ssa.Native:
		return x.Text != "String.add"
	}
	return false
}
