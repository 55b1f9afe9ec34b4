package numeric

import (
	"iter"
	"math"

	"hackamore/api"
)

// Polynomial returns the value of a polynomial.
func Polynomial(l []Number, x Number) Number {
	if len(l) == 0 {
		return Number{}
	}
	sum := number(l[len(l)-1].value())
	for i := len(l) - 2; i >= 0; i-- {
		sum = Add(l[i], Mul(x, sum))
	}
	return sum
}

// Product returns the product of two polynomials.
func Product(a, b []Number) ([]Number, api.Errno) {
	if len(a) > MaxPoints || len(b) > MaxPoints {
		return nil, api.ErrSize
	}
	if len(a) == 0 || len(b) == 0 {
		return nil, api.OK
	}
	l := make([]Number, len(a)+len(b)-1)
	for i, x := range a {
		for j, y := range b {
			l[i+j] = Add(l[i+j], Mul(x, y))
		}
	}
	return l, api.OK
}

// isLength reports whether a transform may have so many points.
func isLength(n int) bool { return n >= 1 && n <= MaxPoints && n&(n-1) == 0 }

// Twiddles returns the factors of a transform.
func Twiddles(n int) ([]Number, api.Errno) {
	if !isLength(n) {
		return nil, api.ErrSize
	}
	c, s := turn(n)
	l := []Number{Of(1, 0), Conj(Of(float32(c), float32(s)))}
	for len(l) < n {
		l = append(l, Mul(l[len(l)-1], l[1]))
	}
	return l[:n], api.OK
}

// turn returns the parts of the first factor of a transform, the second one without its sign.
func turn(n int) (c, s float64) {
	switch n {
	case 1:
		return 1, 0
	case 2:
		return -1, 0
	case 4:
		return 0, 1
	}
	half, _ := turn(n / 2)
	return math.Sqrt((1 + half) / 2), math.Sqrt((1 - half) / 2)
}

// Transform returns the discrete Fourier transform.
func Transform(l []Number, inverse bool) ([]Number, api.Errno) {
	if !isLength(len(l)) {
		return nil, api.ErrSize
	}
	points := make([]Number, len(l))
	for i, x := range l {
		points[i] = number(x.value())
		if inverse {
			points[i] = Conj(x)
		}
	}
	result := transform(points, factors(len(l)))
	if inverse {
		n := float32(len(l))
		for i, x := range result {
			re, im := Conj(x).Parts()
			result[i] = Of(re/n, im/n)
		}
	}
	return result, api.OK
}

// factors returns the Twiddles of all transforms within one of n points.
func factors(n int) map[int][]Number {
	all := make(map[int][]Number)
	for ; n > 1; n /= 2 {
		all[n], _ = Twiddles(n)
	}
	return all
}

// transform returns the transform of points, of which there are as many as a transform may have.
func transform(l []Number, factors map[int][]Number) []Number {
	n := len(l)
	if n == 1 {
		return []Number{l[0]}
	}
	var even, odd []Number
	for x := range everySecond(l) {
		even = append(even, x)
	}
	for x := range everySecond(l[1:]) {
		odd = append(odd, x)
	}
	even, odd = transform(even, factors), transform(odd, factors)
	result := make([]Number, n)
	for k := range n / 2 {
		t := Mul(factors[n][k], odd[k])
		result[k], result[k+n/2] = Add(even[k], t), Sub(even[k], t)
	}
	return result
}

// everySecond hands on the elements of a list with even indices.
func everySecond(l []Number) iter.Seq[Number] {
	return func(yield func(Number) bool) {
		for i := 0; i < len(l); i += 2 {
			if !yield(l[i]) {
				return
			}
		}
	}
}

// Spectrum returns the bits of the powers of the first half of a transform.
func Spectrum(l []uint32) ([]uint32, api.Errno) {
	if !isLength(len(l)) {
		return nil, api.ErrSize
	}
	points := make([]Number, len(l))
	for i, b := range l {
		points[i].Re = b
	}
	all, _ := Transform(points, false)
	var powers []uint32
	for _, x := range all[:len(all)/2+1] {
		a, b := x.Parts()
		powers = append(powers, bits(float32(a*a)+float32(b*b)))
	}
	return powers, api.OK
}
