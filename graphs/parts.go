package graphs

import (
	"hackamore/api"
	"hackamore/ssa"
)

// Ins returns an instruction.
func Ins(op, result int, args ...int) ssa.Ins {
	return ssa.Ins{Op: op, Result: result, Args: args}
}

// Text returns an instruction with a Text.
func Text(op, result int, text string, args ...int) ssa.Ins {
	return ssa.Ins{Op: op, Result: result, Text: text, Args: args}
}

// Item returns an instruction that takes an element of a tuple.
func Item(result, n, tuple int) ssa.Ins {
	return ssa.Ins{Op: ssa.Item, Result: result, N: n, Args: []int{tuple}}
}

// Const returns an instruction that makes a number of the type U8.
func Const(result, n int) ssa.Ins {
	return ssa.Ins{Op: ssa.Const, Result: result, Lit: api.Value{Kind: api.ValNumber + 6, Lo: uint64(n)}}
}

// Truth returns an instruction that makes a Bool.
func Truth(result int, is bool) ssa.Ins {
	return ssa.Ins{Op: ssa.Const, Result: result, Lit: truth(is).lit}
}

// Typed returns an instruction with a type.
func Typed(x ssa.Ins, t api.Type) ssa.Ins {
	x.Type = t
	return x
}

// Jump, Branch, Return, Try, Fails and Stuck return ends.
func Jump(to int) ssa.End { return ssa.End{Kind: ssa.Jump, To: []int{to}} }

func Branch(v, a, b int) ssa.End {
	return ssa.End{Kind: ssa.Branch, Args: []int{v}, To: []int{a, b}}
}

func Return(v int) ssa.End { return ssa.End{Kind: ssa.Return, Args: []int{v}} }

func Try(call ssa.Ins, a, b int) ssa.End {
	return ssa.End{Kind: ssa.Try, Call: call, To: []int{a, b}}
}

func Fails() ssa.End { return ssa.End{Kind: ssa.Error} }

func Stuck() ssa.End { return ssa.End{Kind: ssa.Stuck} }

// Block returns a block.
func Block(end ssa.End, l ...ssa.Ins) ssa.Block { return ssa.Block{Ins: l, End: end} }

// Function returns a function with so many parameters.
func Function(name string, params int, l ...ssa.Block) ssa.Func {
	return ssa.Func{Name: name, Params: make([]api.Type, params), Blocks: l}
}

// Name returns the type of an entity.
func Name(name string) api.Type {
	return api.Type{Kind: api.TypeName, Name: name, Cap: api.Ref}
}
