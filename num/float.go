package num

import (
	"math"

	"hackamore/api"
)

// The bits of a number that is not a number.
const (
	nan32 = 0x7fc00000
	nan64 = 0x7ff8000000000000
)

func single(v api.Value) float32 { return math.Float32frombits(uint32(v.Lo)) }

func double(v api.Value) float64 { return math.Float64frombits(v.Lo) }

func float32Bits(x float32) uint64 {
	if x != x {
		return nan32
	}
	return uint64(math.Float32bits(x))
}

func float64Bits(x float64) uint64 {
	if x != x {
		return nan64
	}
	return math.Float64bits(x)
}

func fromSingle(x float32) api.Value {
	return api.Value{Kind: api.ValNumber + f32, Lo: float32Bits(x)}
}

func fromDouble(x float64) api.Value {
	return api.Value{Kind: api.ValNumber + f64, Lo: float64Bits(x)}
}

func isFinite(x float64) bool { return x-x == 0 }

// narrow returns the nearest F32; Go leaves open what a conversion beyond the greatest one gives.
func narrow(x float64) float32 {
	const half = 0x1.ffffffp127 // between the greatest F32 and the one that would follow
	switch {
	case x >= half:
		return float32(math.Inf(1))
	case x <= -half:
		return float32(math.Inf(-1))
	}
	return float32(x)
}

// float is what the rules of floats are written for once.
type float interface{ float32 | float64 }

// ruleOfFloats makes a rule of one for a kind of floats; that of a test gives 1 or 0.
func ruleOfFloats[T float](name string, f func(x, y T) T, from func(api.Value) T, to func(T) api.Value) rule {
	if f == nil {
		return nil
	}
	return func(x, y api.Value) (api.Value, bool) {
		z := f(from(x), from(y))
		switch {
		case resultOf("", name) == "Bool":
			return boolean(z == 1), true
		case isPartial(name) && !isFinite(float64(z)):
			return api.Value{}, false
		}
		return to(z), true
	}
}

// floatRules returns the rules for one kind of floats.
func floatRules[T float]() map[string]func(x, y T) T {
	return map[string]func(x, y T) T{
		"add":         plus[T],
		"sub":         minus[T],
		"mul":         times[T],
		"div":         over[T],
		"rem":         rest[T],
		"add_partial": plus[T],
		"sub_partial": minus[T],
		"mul_partial": times[T],
		"div_partial": over[T],
		"rem_partial": rest[T],
		"neg":         func(x, y T) T { return T(math.Copysign(float64(x), -math.Copysign(1, float64(x)))) },
		"eq":          func(x, y T) T { return flag[T](x == y) },
		"ne":          func(x, y T) T { return flag[T](x != y) },
		"lt":          func(x, y T) T { return flag[T](x < y) },
		"le":          func(x, y T) T { return flag[T](x <= y) },
		"gt":          func(x, y T) T { return flag[T](x > y) },
		"ge":          func(x, y T) T { return flag[T](x >= y) },
		"min":         lesser[T],
		"max":         greater[T],
		"abs":         lifted[T](math.Abs),
		"sqrt":        lifted[T](math.Sqrt),
		"floor":       lifted[T](math.Floor),
		"ceil":        lifted[T](math.Ceil),
		"trunc":       lifted[T](math.Trunc),
		"round":       lifted[T](math.Round),
		"finite":      func(x, y T) T { return flag[T](x-x == 0) },
		"nan":         func(x, y T) T { return flag[T](x != x) },
	}
}

// lifted makes a rule of a function that is exact, or correctly rounded, for F32, too.
func lifted[T float](f func(x float64) float64) func(x, y T) T {
	return func(x, y T) T { return T(f(float64(x))) }
}

func plus[T float](x, y T) T { return x + y }

func minus[T float](x, y T) T { return x - y }

func times[T float](x, y T) T { return x * y }

func over[T float](x, y T) T { return x / y }

// rest is exact for F32, too: the remainder of two of them is one.
func rest[T float](x, y T) T { return T(math.Mod(float64(x), float64(y))) }

func flag[T float](b bool) T {
	if b {
		return 1
	}
	return 0
}

func lesser[T float](x, y T) T {
	if x <= y || y != y {
		return x
	}
	return y
}

func greater[T float](x, y T) T {
	if x >= y || y != y {
		return x
	}
	return y
}

// convert returns the number of the type to that is nearest to one of the type i, or has its lower bits.
func convert(i, to int, v api.Value) api.Value {
	switch {
	case !types[i].float && !types[to].float:
		return integer(to, value(i, v))
	case types[i].float && types[to].float:
		return floatToFloat(i, to, v)
	case types[i].float:
		return floatToInteger(to, asDouble(i, v))
	case to == f32:
		return fromSingle(narrow(integerToFloat(i, v, 24)))
	}
	return fromDouble(integerToFloat(i, v, 53))
}

// asDouble returns a float as an F64, which is exact.
func asDouble(i int, v api.Value) float64 {
	if i == f32 {
		return float64(single(v))
	}
	return double(v)
}

func floatToFloat(i, to int, v api.Value) api.Value {
	switch {
	case i == to:
		return v
	case to == f32:
		return fromSingle(narrow(double(v)))
	}
	return fromDouble(float64(single(v)))
}

// integerToFloat returns the float with so many bits that is nearest to an integer.
func integerToFloat(i int, v api.Value, most int) float64 {
	w := value(i, v)
	size := absolute(i, w)
	x := nearest(size, most)
	if types[i].signed && w.negative() {
		return -x
	}
	return x
}

// nearest rounds a number to its highest bits, of two that are equally near to the even one.
func nearest(w wide, most int) float64 {
	shift := w.length() - most
	if shift <= 0 {
		return float64(w.lo)
	}
	top, below := w.shr(shift).lo, w.cut(shift)
	half := wide{0, 1}.shl(shift - 1)
	if half.less(below) || half == below && top&1 == 1 {
		top++
	}
	return math.Ldexp(float64(top), shift)
}

// floatToInteger returns the integer without what is behind the point, or the end of the type that is nearest.
func floatToInteger(to int, x float64) api.Value {
	if x != x {
		return integer(to, wide{})
	}
	below := x < 0
	limit := wide{^uint64(0), ^uint64(0)}.shr(128 - types[to].bits)
	switch {
	case !types[to].signed && below:
		limit = wide{}
	case types[to].signed && below:
		limit = wide{0, 1}.shl(types[to].bits - 1)
	case types[to].signed:
		limit = limit.shr(1)
	}
	size, fits := truncated(math.Abs(x))
	if !fits || limit.less(size) {
		size = limit
	}
	if below {
		size = size.neg()
	}
	return integer(to, size)
}

// truncated returns a float that is not below 0 without what is behind the point, if it has at most 128 bits.
func truncated(x float64) (wide, bool) {
	if x >= 0x1p128 {
		return wide{}, false
	}
	fraction, exponent := math.Frexp(x)
	w := wide{0, uint64(math.Ldexp(fraction, 53))}
	switch {
	case exponent <= 0:
		return wide{}, true
	case exponent < 53:
		return w.shr(53 - exponent), true
	}
	return w.shl(exponent - 53), true
}
