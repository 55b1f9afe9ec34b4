package optimize

import (
	"slices"

	"hackamore/api"
	"hackamore/blocks"
	"hackamore/ssa"
	"hackamore/takers"
)

// Limits: of a witness, and of what is put in the place of a call.
const (
	maxSteps   = 20000
	maxCallee  = 40
	maxCaller  = 1000
	maxBlocks  = 400
	maxValue   = 100000
	noneOfThem = -1
)

// optimizer changes a program, and writes down the steps.
type optimizer struct {
	ssa.Program
	numbers map[string]int // of functions, by their names
	finder  *takers.Finder
	steps   []Step
	failed  api.Errno
}

func newOptimizer(p ssa.Program) *optimizer {
	o := &optimizer{Program: blocks.Program(p), numbers: make(map[string]int, len(p.Funcs)), finder: takers.New(p.Entities)}
	for i, f := range p.Funcs {
		o.numbers[f.Name] = i
	}
	return o
}

// passes returns what the passes do with a function, by their numbers.
func passes() [Passes + 1]func(e *editor) {
	return [...]func(e *editor){
		Copies:  (*editor).copies,
		Fold:    (*editor).fold,
		Common:  (*editor).common,
		Dead:    (*editor).dead,
		Inline:  (*editor).inline,
		Devirt:  (*editor).direct,
		Escape:  (*editor).stack,
		Forward: (*editor).forward,
	}
}

// full leaves a pass when a witness has as many steps as there may be.
type full struct{}

// Error says what is full.
func (full) Error() string { return "too many steps" }

// pass does a pass; false, if no other one can follow. Inline goes on as long as a call is left for it: a function that had
// direct calls may have none any more.
func (o *optimizer) pass(n int) (goesOn bool) {
	defer func() {
		switch recover().(type) {
		case nil:
		case full:
			goesOn = false
		default:
			*o = optimizer{failed: api.ErrState}
			goesOn = false
		}
	}()
	table := passes()
	for {
		before := len(o.steps)
		for i := range o.Funcs {
			o.edit(i, table[n])
		}
		if n != Inline || len(o.steps) == before {
			return true
		}
	}
}

// edit does a pass with a function, which is whole also if it is left.
func (o *optimizer) edit(i int, pass func(e *editor)) {
	e := &editor{optimizer: o, f: &o.Funcs[i], number: i}
	e.begin()
	defer e.flush()
	pass(e)
}

// editor changes a function in place. A value may stand for another one, and an instruction may be gone, until it is flushed.
type editor struct {
	*optimizer
	f      *ssa.Func
	number int
	names  []int            // of each value: itself, or one that is nearer to the one that stands for it
	made   map[int]*ssa.Ins // the instructions of values
}

// gone is the operation of an instruction that was taken out.
const gone = 0

// begin makes all values stand for themselves.
func (e *editor) begin() {
	e.names = make([]int, blocks.Top(e.f))
	for v := range e.names {
		e.names[v] = v
	}
	e.made = make(map[int]*ssa.Ins)
	for x := range e.alive() {
		e.made[x.Result] = x
	}
}

// flush writes the values that stand for others, and takes out what is gone.
func (e *editor) flush() {
	for l := range blocks.Lists(e.f) {
		for i, v := range *l {
			(*l)[i] = e.find(v)
		}
	}
	for i := range e.f.Blocks {
		l := &e.f.Blocks[i].Ins
		*l = slices.DeleteFunc(*l, func(x ssa.Ins) bool { return x.Op == gone })
	}
	e.begin()
}

// find returns the value that stands for another one.
func (e *editor) find(v int) int {
	for e.names[v] != v {
		e.names[v] = e.names[e.names[v]]
		v = e.names[v]
	}
	return v
}

// operand returns the instruction of an argument, if it has an operation; otherwise nil.
func (e *editor) operand(v, op int) *ssa.Ins {
	x := e.made[e.find(v)]
	if x == nil || x.Op != op {
		return nil
	}
	return x
}

// record writes down a step, which is done then.
func (e *editor) record(s Step) {
	if len(e.steps) >= maxSteps {
		panic(full{})
	}
	s.Func = e.number
	e.steps = append(e.steps, s)
}

// alive hands on the instructions of all blocks.
func (e *editor) alive() func(yield func(x *ssa.Ins) bool) {
	return func(yield func(x *ssa.Ins) bool) {
		for i := range e.f.Blocks {
			l := e.f.Blocks[i].Ins
			for j := range l {
				if l[j].Op != gone && !yield(&l[j]) {
					return
				}
			}
		}
	}
}

// typ returns the type of a value: that of the parameter, or of what makes it.
func (e *editor) typ(v int) api.Type {
	if v < len(e.f.Params) {
		return e.f.Params[v]
	}
	for _, x := range blocks.All(e.f) {
		if x.Result == v {
			return x.Type
		}
	}
	return api.Type{}
}
