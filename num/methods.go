package num

import (
	"iter"
	"math/bits"
	"strings"

	"hackamore/api"
)

// The methods in their order: those of all numbers, then those of integers or floats; the conversions follow.
const (
	namesOfAll = "add sub mul div rem add_partial sub_partial mul_partial div_partial rem_partial neg " +
		"eq ne lt le gt ge min max abs"
	namesOfIntegers = "op_and op_or op_xor op_not shl shr popcount clz ctz"
	namesOfFloats   = "sqrt floor ceil trunc round finite nan"
	namesOfBools    = "eq ne op_and op_or op_xor op_not"
)

// methodNames hands on the names of the methods of a number type, or of Bool.
func methodNames(typ string) iter.Seq[string] {
	list := namesOfBools
	i := index(typ)
	if i >= 0 {
		list = namesOfAll + " " + namesOfIntegers
		if types[i].float {
			list = namesOfAll + " " + namesOfFloats
		}
		for _, t := range types {
			list += " " + t.method
		}
	}
	return func(yield func(string) bool) {
		if i < 0 && typ != "Bool" {
			return
		}
		for _, name := range strings.Fields(list) {
			if !yield(name) {
				return
			}
		}
		yield("string")
	}
}

// signature returns what a method of a type takes and returns.
func signature(typ, name string) Signature {
	s := Signature{Name: name, Result: resultOf(typ, name), Partial: isPartial(name)}
	for range paramsOf(name) {
		s.Params = append(s.Params, typ)
	}
	return s
}

func isPartial(name string) bool { return strings.HasSuffix(name, "_partial") }

// paramsOf returns how many parameters a method has.
func paramsOf(name string) int {
	switch name {
	case "neg", "abs", "op_not", "popcount", "clz", "ctz", "sqrt", "floor", "ceil", "trunc", "round", "finite", "nan", "string":
		return 0
	}
	if conversion(name) >= 0 {
		return 0
	}
	return 1
}

// resultOf returns the type of what a method of a type returns.
func resultOf(typ, name string) string {
	switch name {
	case "eq", "ne", "lt", "le", "gt", "ge", "finite", "nan":
		return "Bool"
	case "string":
		return "String"
	}
	if to := conversion(name); to >= 0 {
		return types[to].name
	}
	return typ
}

// conversion returns the index of the type that a method converts to, or -1.
func conversion(name string) int {
	for i, t := range types {
		if t.method == name {
			return i
		}
	}
	return -1
}

// rule is what a method does; without a parameter, y is x again. It gives false, if the method raises.
type rule func(x, y api.Value) (api.Value, bool)

// find returns the rule of a method of a number type, or of Bool, and the kind of its values.
func find(typ, name string) (rule, int) {
	i := index(typ)
	switch to := conversion(name); {
	case typ == "Bool":
		return ruleOfBools(boolRules()[name]), api.ValBool
	case i < 0:
		return nil, 0
	case to >= 0:
		return func(x, y api.Value) (api.Value, bool) { return convert(i, to, x), true }, api.ValNumber + i
	case i == f32:
		return ruleOfFloats(name, floatRules[float32]()[name], single, fromSingle), api.ValNumber + i
	case i == f64:
		return ruleOfFloats(name, floatRules[float64]()[name], double, fromDouble), api.ValNumber + i
	}
	return ruleOfIntegers(i, name, integerRules()[name]), api.ValNumber + i
}

func ruleOfBools(f func(x, y bool) bool) rule {
	if f == nil {
		return nil
	}
	return func(x, y api.Value) (api.Value, bool) { return boolean(f(x.Lo == 1, y.Lo == 1)), true }
}

// whole is a rule of integers of the type with an index; that of a comparison gives 1 or 0.
type whole func(i int, x, y wide) (wide, bool)

func ruleOfIntegers(i int, name string, f whole) rule {
	if f == nil {
		return nil
	}
	return func(x, y api.Value) (api.Value, bool) {
		w, ok := f(i, value(i, x), value(i, y))
		switch {
		case !ok:
			return api.Value{}, false
		case resultOf("", name) == "Bool":
			return boolean(!w.zero()), true
		}
		return integer(i, w), true
	}
}

// truth is the result of a comparison.
func truth(b bool) (wide, bool) {
	if b {
		return wide{0, 1}, true
	}
	return wide{}, true
}

func boolRules() map[string]func(x, y bool) bool {
	return map[string]func(x, y bool) bool{
		"eq":     func(x, y bool) bool { return x == y },
		"ne":     func(x, y bool) bool { return x != y },
		"op_and": func(x, y bool) bool { return x && y },
		"op_or":  func(x, y bool) bool { return x || y },
		"op_xor": func(x, y bool) bool { return x != y },
		"op_not": func(x, y bool) bool { return !x },
	}
}

func integerRules() map[string]whole {
	return map[string]whole{
		"add":         func(i int, x, y wide) (wide, bool) { return x.add(y), true },
		"sub":         func(i int, x, y wide) (wide, bool) { return x.sub(y), true },
		"mul":         func(i int, x, y wide) (wide, bool) { return x.mul(y), true },
		"div":         func(i int, x, y wide) (wide, bool) { q, _ := divided(i, x, y); return q, true },
		"rem":         func(i int, x, y wide) (wide, bool) { _, r := divided(i, x, y); return r, true },
		"add_partial": addExact,
		"sub_partial": subExact,
		"mul_partial": mulExact,
		"div_partial": func(i int, x, y wide) (wide, bool) { q, _ := divided(i, x, y); return q, divides(i, x, y) },
		"rem_partial": func(i int, x, y wide) (wide, bool) { _, r := divided(i, x, y); return r, divides(i, x, y) },
		"neg":         func(i int, x, y wide) (wide, bool) { return x.neg(), true },
		"eq":          func(i int, x, y wide) (wide, bool) { return truth(x == y) },
		"ne":          func(i int, x, y wide) (wide, bool) { return truth(x != y) },
		"lt":          func(i int, x, y wide) (wide, bool) { return truth(below(i, x, y)) },
		"le":          func(i int, x, y wide) (wide, bool) { return truth(!below(i, y, x)) },
		"gt":          func(i int, x, y wide) (wide, bool) { return truth(below(i, y, x)) },
		"ge":          func(i int, x, y wide) (wide, bool) { return truth(!below(i, x, y)) },
		"min":         func(i int, x, y wide) (wide, bool) { return either(!below(i, y, x), x, y), true },
		"max":         func(i int, x, y wide) (wide, bool) { return either(!below(i, x, y), x, y), true },
		"abs":         func(i int, x, y wide) (wide, bool) { return absolute(i, x), true },
		"op_and":      func(i int, x, y wide) (wide, bool) { return wide{x.hi & y.hi, x.lo & y.lo}, true },
		"op_or":       func(i int, x, y wide) (wide, bool) { return wide{x.hi | y.hi, x.lo | y.lo}, true },
		"op_xor":      func(i int, x, y wide) (wide, bool) { return wide{x.hi ^ y.hi, x.lo ^ y.lo}, true },
		"op_not":      func(i int, x, y wide) (wide, bool) { return wide{^x.hi, ^x.lo}, true },
		"shl":         func(i int, x, y wide) (wide, bool) { return x.shl(amount(i, y)), true },
		"shr":         func(i int, x, y wide) (wide, bool) { return shiftRight(i, x, y), true },
		"popcount":    func(i int, x, y wide) (wide, bool) { return popcount(i, x), true },
		"clz":         func(i int, x, y wide) (wide, bool) { return leading(i, x), true },
		"ctz":         func(i int, x, y wide) (wide, bool) { return trailing(i, x), true },
	}
}

func small(n int) wide { return wide{0, uint64(n)} }

func either(first bool, x, y wide) wide {
	if first {
		return x
	}
	return y
}

// below compares two integers with the bits of their signs ahead.
func below(i int, x, y wide) bool {
	if types[i].signed && x.negative() != y.negative() {
		return x.negative()
	}
	return x.less(y)
}

// absolute returns the number without its sign; that of the least I128 is right, read without a sign.
func absolute(i int, x wide) wide {
	if types[i].signed && x.negative() {
		return x.neg()
	}
	return x
}

// least reports whether a number is the least one of a signed type.
func least(i int, x wide) bool {
	return types[i].signed && x.cut(types[i].bits) == wide{0, 1}.shl(types[i].bits-1)
}

// divides reports whether a quotient exists, and is of the type.
func divides(i int, x, y wide) bool {
	return !y.zero() && !(least(i, x) && y.add(small(1)).zero())
}

// divided returns the quotient without what is behind the point, and the remainder; 0 and 0 for a division by 0.
func divided(i int, x, y wide) (quotient, rest wide) {
	if y.zero() {
		return wide{}, wide{}
	}
	quotient, rest = absolute(i, x).divide(absolute(i, y))
	if types[i].signed && x.negative() != y.negative() {
		quotient = quotient.neg()
	}
	if types[i].signed && x.negative() {
		rest = rest.neg()
	}
	return quotient, rest
}

// same reports whether a result has not lost bits in its type, unless it lost some of all 128 before.
func same(i int, w wide) bool {
	c := w.cut(types[i].bits)
	if types[i].signed {
		c = c.extended(types[i].bits)
	}
	return c == w
}

func addExact(i int, x, y wide) (wide, bool) {
	sum := x.add(y)
	if types[i].signed {
		wrong := x.negative() == y.negative() && sum.negative() != x.negative()
		return sum, !wrong && same(i, sum)
	}
	return sum, !sum.less(x) && same(i, sum)
}

func subExact(i int, x, y wide) (wide, bool) {
	difference := x.sub(y)
	if types[i].signed {
		wrong := x.negative() != y.negative() && difference.negative() != x.negative()
		return difference, !wrong && same(i, difference)
	}
	return difference, !x.less(y)
}

func mulExact(i int, x, y wide) (wide, bool) {
	a, b := absolute(i, x), absolute(i, y)
	if !a.zero() && (wide{^uint64(0), ^uint64(0)}).quotient(a).less(b) {
		return wide{}, false
	}
	product, below := a.mul(b), types[i].signed && x.negative() != y.negative()
	if below {
		product = product.neg()
	}
	if product.zero() {
		return product, true
	}
	fits := same(i, product) && (!types[i].signed || product.negative() == below)
	return product, fits
}

func (a wide) quotient(b wide) wide {
	q, _ := a.divide(b)
	return q
}

// amount returns by how much a shift shifts; the type's bits, if by these or more.
func amount(i int, y wide) int {
	y = y.cut(types[i].bits)
	if y.hi != 0 || y.lo >= uint64(types[i].bits) {
		return types[i].bits
	}
	return int(y.lo)
}

// shiftRight shifts a number with the bits of its sign ahead.
func shiftRight(i int, x, y wide) wide {
	n := amount(i, y)
	switch {
	case !types[i].signed || !x.negative():
		return x.shr(n)
	case n == 128:
		return wide{^uint64(0), ^uint64(0)}
	}
	return x.shr(n).extended(128 - n)
}

func popcount(i int, x wide) wide {
	x = x.cut(types[i].bits)
	return small(bits.OnesCount64(x.hi) + bits.OnesCount64(x.lo))
}

func leading(i int, x wide) wide { return small(types[i].bits - x.cut(types[i].bits).length()) }

func trailing(i int, x wide) wide {
	x = x.cut(types[i].bits)
	switch {
	case x.zero():
		return small(types[i].bits)
	case x.lo == 0:
		return small(64 + bits.TrailingZeros64(x.hi))
	}
	return small(bits.TrailingZeros64(x.lo))
}
