package syntax

import (
	"strings"

	"hackamore/api"
	"hackamore/token"
)

// The names of the kinds, in their order; a word is the name of its place.
const kindNames = "- Module Use Entity Word Nothing Bounds Bound Field Method Params Param " +
	"NamedType UnionType BothType TupleType ArrowType ThisType LambdaType " +
	"IntLit FloatLit StringLit BoolLit Name This Seq Decl Assign Dot Tilde Chain Call Named Qualify " +
	"Tuple Array Unary Binary As Consume Recover If Ifdef While Repeat For With Match Case Try " +
	"Error Return Break Continue Object Lambda Capture"

// Words that may stand as texts, behind a mark: ? if the empty one may stand there, too, otherwise !.
const (
	wordCaps      = "? iso trn ref val box tag "
	wordAnyCaps   = wordCaps + "#read #send #share #alias #any "
	wordMarks     = "? ^ ! "
	wordPartial   = "? ? "
	wordEntities  = "! class actor primitive trait interface type "
	wordMethods   = "! new fun be "
	wordVariables = "! var let "
	wordUnary     = "! not - "
	wordBools     = "! true false "
	wordBinary    = "! and or xor is isnt + - * / % +? -? *? /? %? << >> == != < <= > >= "
)

// shape is what the nodes of a kind must be: the group of the text, those of the first kids, one by one, and those of
// the kids behind them, each of which may stand any number of times. There are at least so many kids behind.
type shape struct {
	text  string
	kids  string
	more  string
	least int
}

// shapes returns what the nodes of all kinds must be. A list of words is the group of a Word with one of them.
func shapes() [Last + 1]shape {
	return [Last + 1]shape{
		Module:     {"none", "", "use,entity", 0},
		Use:        {"package", "e?", "", 0},
		Entity:     {"name", wordEntities + "," + wordCaps + ",bounds,t?", "member", 0},
		Word:       {"utf8", "", "", 0},
		Nothing:    {"none", "", "", 0},
		Bounds:     {"none", "", "bound", 0},
		Bound:      {"name", "t?", "", 0},
		Field:      {"name", wordVariables + ",t,e?", "", 0},
		Method:     {"name", wordMethods + "," + wordCaps + ",bounds,params,t?," + wordPartial + ",e?", "", 0},
		Params:     {"none", "", "param", 0},
		Param:      {"name", "t,e?", "", 0},
		NamedType:  {"typename", wordAnyCaps + "," + wordMarks, "t", 0},
		UnionType:  {"none", "", "t", 2},
		BothType:   {"none", "", "t", 2},
		TupleType:  {"none", "", "t", 2},
		ArrowType:  {"none", "t,t", "", 0},
		ThisType:   {"none", "", "", 0},
		LambdaType: {"none", wordCaps + "," + wordMarks + "," + wordPartial + ",t?", "t", 0},
		IntLit:     {"int", "", "", 0},
		FloatLit:   {"float", "", "", 0},
		StringLit:  {"utf8", "", "", 0},
		BoolLit:    {wordBools, "", "", 0},
		Name:       {"name", "", "", 0},
		This:       {"none", "", "", 0},
		Seq:        {"none", "", "stat", 2},
		Decl:       {"name", wordVariables + ",t", "", 0},
		Assign:     {"none", "left,e", "", 0},
		Dot:        {"name", "e", "", 0},
		Tilde:      {"name", "e", "", 0},
		Chain:      {"name", "e", "", 0},
		Call:       {"none", "e," + wordPartial, "e,named", 0},
		Named:      {"name", "e", "", 0},
		Qualify:    {"none", "e", "t", 1},
		Tuple:      {"none", "", "e", 2},
		Array:      {"none", "t", "e", 0},
		Unary:      {wordUnary, "e", "", 0},
		Binary:     {wordBinary, "e,e", "", 0},
		As:         {"none", "e,t", "", 0},
		Consume:    {"none", "e", "", 0},
		Recover:    {"none", wordCaps + ",e", "", 0},
		If:         {"none", "e,e,e?", "", 0},
		Ifdef:      {"none", "e,e,e?", "", 0},
		While:      {"none", "e,e,e?", "", 0},
		Repeat:     {"none", "e,e", "", 0},
		For:        {"name", "t,e,e,e?", "", 0},
		With:       {"name", "t,e,e", "", 0},
		Match:      {"none", "e,e?", "case", 1},
		Case:       {"none", "e,e?,e", "", 0},
		Try:        {"none", "e,e?,e?", "", 0},
		Error:      {"none", "", "", 0},
		Return:     {"none", "e?", "", 0},
		Break:      {"none", "", "", 0},
		Continue:   {"none", "", "", 0},
		Object:     {"none", wordCaps + ",t?", "member", 0},
		Lambda:     {"none", wordCaps + ",params,t?," + wordPartial + ",e", "capture", 0},
		Capture:    {"name", "t,e", "", 0},
	}
}

// textGroups returns, by its name, what a text must be.
func textGroups() map[string]func(s string) bool {
	literal := func(kind int) func(s string) bool {
		return func(s string) bool {
			_, e := token.Text([]token.Token{{Kind: kind, Text: s, Line: true}})
			return e == api.OK
		}
	}
	return map[string]func(s string) bool{
		"none":     func(s string) bool { return s == "" },
		"name":     token.IsIdent,
		"package":  func(s string) bool { return areNames(strings.Split(s, "/")) },
		"typename": func(s string) bool { l := strings.Split(s, "."); return len(l) <= 2 && areNames(l) },
		"utf8":     func(s string) bool { _, e := token.Quote(s); return e == api.OK },
		"int":      literal(token.Int),
		"float":    literal(token.Float),
	}
}

func areNames(l []string) bool {
	for _, s := range l {
		if !token.IsIdent(s) {
			return false
		}
	}
	return true
}

// kidGroups returns, by its name, what a kid must be, if it is itself of the right form.
func kidGroups() map[string]func(n api.Node) bool {
	is := func(kind int) func(n api.Node) bool {
		return func(n api.Node) bool { return n.Kind == kind }
	}
	or := func(a, b func(n api.Node) bool) func(n api.Node) bool {
		return func(n api.Node) bool { return a(n) || b(n) }
	}
	return map[string]func(n api.Node) bool{
		"use":     is(Use),
		"entity":  is(Entity),
		"bounds":  is(Bounds),
		"bound":   is(Bound),
		"params":  is(Params),
		"param":   is(Param),
		"named":   is(Named),
		"case":    is(Case),
		"capture": is(Capture),
		"member":  IsMember,
		"t":       IsType,
		"t?":      or(IsType, is(Nothing)),
		"e":       IsExpr,
		"e?":      or(IsExpr, is(Nothing)),
		"stat":    func(n api.Node) bool { return IsExpr(n) && n.Kind != Seq },
		"left":    isLeft,
	}
}

// isLeft reports whether a node may be assigned to.
func isLeft(n api.Node) bool {
	switch n.Kind {
	case Name, Decl, Dot, Call:
		return true
	case Tuple:
		for _, k := range n.Kids {
			if !isLeft(k) {
				return false
			}
		}
		return true
	}
	return false
}

// isList reports whether a group is a list of words.
func isList(group string) bool { return group[0] == '?' || group[0] == '!' }

// hasWord reports whether a text is one of a list of words.
func hasWord(list, s string) bool {
	if s == "" {
		return list[0] == '?'
	}
	return !strings.Contains(s, " ") && strings.Contains(list[1:], " "+s+" ")
}
