package num

import "math/bits"

// wide is a number of 128 bits; where a sign matters, it is that of two's complement.
type wide struct{ hi, lo uint64 }

func (a wide) add(b wide) wide {
	lo, carry := bits.Add64(a.lo, b.lo, 0)
	hi, _ := bits.Add64(a.hi, b.hi, carry)
	return wide{hi, lo}
}

func (a wide) neg() wide { return wide{^a.hi, ^a.lo}.add(wide{0, 1}) }

func (a wide) sub(b wide) wide { return a.add(b.neg()) }

func (a wide) mul(b wide) wide {
	hi, lo := bits.Mul64(a.lo, b.lo)
	return wide{hi + a.hi*b.lo + a.lo*b.hi, lo}
}

func (a wide) negative() bool { return a.hi>>63 == 1 }

// less compares two numbers without signs.
func (a wide) less(b wide) bool { return a.hi < b.hi || a.hi == b.hi && a.lo < b.lo }

func (a wide) zero() bool { return a == wide{} }

// shl shifts to the left; a shift by 128 and more gives 0.
func (a wide) shl(n int) wide {
	if n >= 64 {
		return wide{a.lo << (n - 64), 0}
	}
	return wide{a.hi<<n | a.lo>>(64-n), a.lo << n}
}

// shr shifts to the right, without a sign.
func (a wide) shr(n int) wide {
	if n >= 64 {
		return wide{0, a.hi >> (n - 64)}
	}
	return wide{a.hi >> n, a.lo>>n | a.hi<<(64-n)}
}

// cut returns the lower n bits.
func (a wide) cut(n int) wide { return a.shl(128 - n).shr(128 - n) }

// extended fills the bits ahead of the lower n ones with the highest of these.
func (a wide) extended(n int) wide {
	if n < 128 && a.shr(n-1).lo&1 == 1 {
		mask := wide{^uint64(0), ^uint64(0)}.shl(n)
		return wide{a.hi | mask.hi, a.lo | mask.lo}
	}
	return a
}

// length returns the number of bits without zeros ahead.
func (a wide) length() int {
	if a.hi != 0 {
		return 64 + bits.Len64(a.hi)
	}
	return bits.Len64(a.lo)
}

// divide returns the quotient and the remainder of numbers without signs; b is not 0.
func (a wide) divide(b wide) (quotient, rest wide) {
	if b.hi == 0 {
		hi, r := a.hi/b.lo, a.hi%b.lo
		lo, r := bits.Div64(r, a.lo, b.lo)
		return wide{hi, lo}, wide{0, r}
	}
	for i := a.length() - 1; i >= 0; i-- {
		// b has more than 64 bits, so that rest may need 129 for a moment.
		over := rest.negative()
		rest = rest.shl(1)
		rest.lo |= a.shr(i).lo & 1
		if over || !rest.less(b) {
			rest = rest.sub(b)
			quotient = quotient.add(wide{0, 1}.shl(i))
		}
	}
	return quotient, rest
}
