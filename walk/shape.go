package walk

import "hackamore/api"

const many = 1<<31 - 1

// shapes says of each operation how many types and how many kids it has, at least and at most. A type must be there also
// where no evaluation asks for it.
var shapes = [...]struct{ types, mostTypes, kids, mostKids int }{
	api.OpLit:      {1, 1, 0, 0},
	api.OpLocal:    {0, 0, 0, 0},
	api.OpThis:     {0, 0, 0, 0},
	api.OpGet:      {0, 0, 1, 1},
	api.OpSet:      {0, 0, 2, 2},
	api.OpVar:      {1, 1, 0, 1},
	api.OpLet:      {1, 1, 0, 1},
	api.OpAssign:   {0, 0, 1, 1},
	api.OpConsume:  {0, 0, 0, 0},
	api.OpSeq:      {0, 0, 0, many},
	api.OpIf:       {0, 0, 3, 3},
	api.OpWhile:    {0, 0, 3, 3},
	api.OpMatch:    {0, 0, 1, many},
	api.OpCase:     {1, 1, 2, 2},
	api.OpTry:      {0, 0, 3, 3},
	api.OpError:    {0, 0, 0, 0},
	api.OpReturn:   {0, 0, 0, 1},
	api.OpBreak:    {0, 0, 0, 0},
	api.OpContinue: {0, 0, 0, 0},
	api.OpCall:     {0, many, 1, many},
	api.OpNew:      {1, many, 0, many},
	api.OpRecover:  {1, 1, 1, 1},
	api.OpTuple:    {0, 0, 2, many},
	api.OpItem:     {0, 0, 1, 1},
	api.OpIs:       {0, 0, 2, 2},
	api.OpUnit:     {1, 1, 0, 0},
}

// Formed reports whether an expression has as many types and kids as its operation asks for when it is evaluated.
func Formed(x *api.Expr) bool {
	if x.Op < api.OpLit || x.Op > api.OpLast {
		return false
	}
	s := shapes[x.Op]
	return len(x.Types) >= s.types && len(x.Types) <= s.mostTypes && len(x.Kids) >= s.kids && len(x.Kids) <= s.mostKids
}
