package colour

import "math/bits"

// bitset is a set of numbers below 512: words of bits.
type bitset [8]uint64

func (s *bitset) add(n int) { s[n/64] |= 1 << (n % 64) }

func (s *bitset) has(n int) bool { return s[n/64]>>(n%64)&1 == 1 }

// list returns the elements of a set, ascending.
func (s *bitset) list() []int {
	var l []int
	for i, w := range s {
		for ; w != 0; w &= w - 1 {
			l = append(l, 64*i+bits.TrailingZeros64(w))
		}
	}
	return l
}

// least returns the least number that is not in a set.
func (s *bitset) least() int {
	for i, w := range s {
		if w != ^uint64(0) {
			return 64*i + bits.TrailingZeros64(^w)
		}
	}
	return 64 * len(s)
}

// matrix has the selectors that conflict with each selector, one set behind the other.
type matrix []uint64

func newMatrix() matrix { return make(matrix, maxSelectors*len(bitset{})) }

// row returns the selectors that conflict with a selector.
func (m matrix) row(selector int) *bitset {
	words := len(bitset{})
	return (*bitset)(m[selector*words : (selector+1)*words])
}
