package numeric_test

import (
	"math"
	"slices"
	"testing"

	"hackamore/api"
	"hackamore/numeric"
	"hackamore/samples"
)

type number = numeric.Number

// Bits of F32 that the tests use; odd is a not-a-number with other bits than those in results.
const (
	nan, odd, negative, infinite = 0x7fc00000, 0xff812345, 1 << 31, 0x7f800000
)

func of(re, im int) number { return numeric.Of(float32(re), float32(im)) }

// f returns the exact value of an F32 as an F64.
func f(b uint32) float64 { return float64(math.Float32frombits(b)) }

// rounded returns the bits of the F32 nearest to an F64. Products of two F32 are exact in F64, and sums and quotients
// that are rounded to F64 first are rounded to the same F32.
func rounded(x float64) uint32 {
	if x != x {
		return nan
	}
	return math.Float32bits(float32(x))
}

func plus(a, b uint32) uint32  { return rounded(f(a) + f(b)) }
func minus(a, b uint32) uint32 { return rounded(f(a) - f(b)) }
func times(a, b uint32) uint32 { return rounded(f(a) * f(b)) }
func over(a, b uint32) uint32  { return rounded(f(a) / f(b)) }

// equal reports whether two numbers have equal values; 0 and -0 are.
func equal(x, y number) bool { return f(x.Re) == f(y.Re) && f(x.Im) == f(y.Im) }

func product(x, y number) number {
	return number{minus(times(x.Re, y.Re), times(x.Im, y.Im)), plus(times(x.Re, y.Im), times(x.Im, y.Re))}
}

func quotient(x, y number) number {
	n := plus(times(y.Re, y.Re), times(y.Im, y.Im))
	re := plus(times(x.Re, y.Re), times(x.Im, y.Im))
	return number{over(re, n), over(minus(times(x.Im, y.Re), times(x.Re, y.Im)), n)}
}

func clean(b uint32) uint32 {
	if f(b) != f(b) {
		return nan
	}
	return b
}

func conj(x number) number {
	x = number{clean(x.Re), clean(x.Im)}
	if x.Im != nan {
		x.Im ^= negative
	}
	return x
}

// bits returns the bits of an F32: often a special one, a small integer, or any bits.
func bits(m *samples.Maker) uint32 {
	special := []uint32{0, negative, infinite, infinite | negative, nan, odd, 1, negative | 1, 0x7f7fffff, 0x00800000, 0x3f800001, 0x7f800001}
	switch m.Below(4) {
	case 0:
		return special[m.Below(len(special))]
	case 1:
		return math.Float32bits(float32(m.Below(2001) - 1000))
	case 2:
		return 0x3f000000 + uint32(m.Below(1<<24)) + uint32(m.Below(2))<<31
	}
	return uint32(m.Below(1<<16))<<16 | uint32(m.Below(1<<16))
}

func any(m *samples.Maker) number { return number{bits(m), bits(m)} }

// TestArithmetic: each operation is rounded by itself, whatever the bits are.
func TestArithmetic(t *testing.T) {
	m := samples.New(16)
	for range 200000 {
		x, y := any(m), any(m)
		for _, c := range []struct {
			name      string
			got, want number
		}{
			{"Add", numeric.Add(x, y), number{plus(x.Re, y.Re), plus(x.Im, y.Im)}},
			{"Sub", numeric.Sub(x, y), number{minus(x.Re, y.Re), minus(x.Im, y.Im)}},
			{"Mul", numeric.Mul(x, y), product(x, y)},
			{"Div", numeric.Div(x, y), quotient(x, y)},
			{"Conj", numeric.Conj(x), conj(x)},
			{"Of", numeric.Of(math.Float32frombits(x.Re), math.Float32frombits(x.Im)), number{clean(x.Re), clean(x.Im)}},
		} {
			if c.got != c.want {
				t.Fatalf("%s of %x and %x: %x, not %x", c.name, x, y, c.got, c.want)
			}
		}
		re, im := x.Parts()
		if math.Float32bits(re) != clean(x.Re) || math.Float32bits(im) != clean(x.Im) {
			t.Fatalf("Parts of %x: %x, %x", x, math.Float32bits(re), math.Float32bits(im))
		}
		a, b := f(x.Re)*f(x.Re), f(x.Im)*f(x.Im)
		if got, want := numeric.Abs(x), rounded(math.Sqrt(a+b)); got != want {
			t.Fatalf("Abs of %x: %x, not %x", x, got, want)
		}
	}
}

// TestExamples: those of the chapter, and single results that are known.
func TestExamples(t *testing.T) {
	if got := numeric.Mul(of(1, 2), of(3, -1)); got != of(5, 5) {
		t.Errorf("Mul: %x", got)
	}
	if got := numeric.Abs(of(3, 4)); got != math.Float32bits(5) {
		t.Errorf("Abs: %x", got)
	}
	transformed(t, []number{of(1, 0), of(0, 0), of(0, 0), of(0, 0)}, of(1, 0), of(1, 0), of(1, 0), of(1, 0))
	l, e := numeric.Transform([]number{of(0, 0), of(1, 0), of(0, 0), of(0, 0)}, false)
	for i, want := range []number{of(1, 0), of(0, -1), of(-1, 0), of(0, 1)} {
		if e != api.OK || !equal(l[i], want) {
			t.Errorf("element %d: %x, not %x, error %d", i, l[i], want, e)
		}
	}
	if got := numeric.Div(of(5, 5), of(3, -1)); got != of(1, 2) {
		t.Errorf("Div: %x", got)
	}
	if got := numeric.Div(of(1, 0), of(0, 0)); got != (number{nan, nan}) {
		t.Errorf("Div by 0: %x", got)
	}
	if got := numeric.Conj(of(0, 0)); got != (number{0, negative}) {
		t.Errorf("Conj of 0: %x", got)
	}
	large := number{0x7f7fffff, 0}
	if got := numeric.Mul(large, large); got != (number{infinite, 0}) {
		t.Errorf("Mul of the greatest: %x", got)
	}
	if got := numeric.Abs(large); got != 0x7f7fffff {
		t.Errorf("Abs of the greatest: %x", got)
	}
	if got := numeric.Abs(number{0x7f7fffff, 0x7f7fffff}); got != infinite {
		t.Errorf("Abs beyond the greatest: %x", got)
	}
}

func transformed(t *testing.T, l []number, want ...number) {
	t.Helper()
	if got, e := numeric.Transform(l, false); e != api.OK || !slices.Equal(got, want) {
		t.Errorf("Transform of %x: %x, error %d, not %x", l, got, e, want)
	}
}

// small returns a list of numbers with integers up to 1000.
func small(m *samples.Maker, n, limit int) []number {
	l := make([]number, n)
	for i := range l {
		l[i] = of(m.Below(2*limit+1)-limit, m.Below(2*limit+1)-limit)
	}
	return l
}

// TestSmallIntegers: what is exact (P16.2).
func TestSmallIntegers(t *testing.T) {
	m := samples.New(2)
	for range 20000 {
		l := small(m, 3, 1000)
		x, y, z := l[0], l[1], l[2]
		if numeric.Add(x, y) != numeric.Add(y, x) || numeric.Mul(x, y) != numeric.Mul(y, x) || numeric.Add(numeric.Sub(x, y), y) != x {
			t.Fatalf("%x and %x do not commute", x, y)
		}
		left, right := numeric.Mul(x, numeric.Add(y, z)), numeric.Add(numeric.Mul(x, y), numeric.Mul(x, z))
		if left != right {
			t.Fatalf("%x, %x, %x: %x, not %x", x, y, z, left, right)
		}
		if _, im := numeric.Mul(x, numeric.Conj(x)).Parts(); im != 0 {
			t.Fatalf("%x times its conjugate is not real", x)
		}
		a, b := x.Parts()
		c, d := y.Parts()
		if got := numeric.Mul(x, y); got != of(int(a)*int(c)-int(b)*int(d), int(a)*int(d)+int(b)*int(c)) {
			t.Fatalf("%x times %x is not exact: %x", x, y, got)
		}
	}
}

// TestPolynomials: values, products (P16.4), and the order in which sums are made.
func TestPolynomials(t *testing.T) {
	if got := numeric.Polynomial(nil, of(3, 0)); got != of(0, 0) {
		t.Errorf("without coefficients: %x", got)
	}
	if got := numeric.Polynomial([]number{{odd, negative}}, of(3, 0)); got != (number{nan, negative}) {
		t.Errorf("of one coefficient: %x", got)
	}
	if got := numeric.Polynomial([]number{of(1, 0), of(2, 0), of(3, 1)}, of(0, 2)); got != of(-11, 0) {
		t.Errorf("1 + 2 x + (3 + i) x x at 2 i: %x", got)
	}
	m := samples.New(4)
	for range 5000 {
		a, b, x := small(m, m.Below(4), 9), small(m, m.Below(4), 9), small(m, 1, 9)[0]
		p, e := numeric.Product(a, b)
		if e != api.OK || len(a)*len(b) > 0 && len(p) != len(a)+len(b)-1 || len(a)*len(b) == 0 && len(p) > 0 {
			t.Fatalf("Product of %d and %d: %d, error %d", len(a), len(b), len(p), e)
		}
		left, right := numeric.Polynomial(p, x), numeric.Mul(numeric.Polynomial(a, x), numeric.Polynomial(b, x))
		if !equal(left, right) {
			t.Fatalf("%x times %x at %x: %x, not %x", a, b, x, left, right)
		}
	}
	for range 5000 {
		a, b := []number{any(m), any(m), any(m)}, []number{any(m), any(m)}
		x := any(m)
		if got, want := numeric.Polynomial(a, x), numeric.Add(a[0], numeric.Mul(x, numeric.Add(a[1], numeric.Mul(x, a[2])))); got != want {
			t.Fatalf("Polynomial %x at %x: %x, not %x", a, x, got, want)
		}
		p, _ := numeric.Product(a, b)
		for k := range 4 {
			sum := number{}
			for i := range a {
				if k-i >= 0 && k-i < len(b) {
					sum = numeric.Add(sum, numeric.Mul(a[i], b[k-i]))
				}
			}
			if p[k] != sum {
				t.Fatalf("coefficient %d: %x, not %x", k, p[k], sum)
			}
		}
	}
	if p, e := numeric.Product([]number{{negative, 0}}, []number{of(1, 0)}); e != api.OK || p[0] != of(0, 0) {
		t.Errorf("a sum begins with 0: %x, error %d", p, e)
	}
	for _, n := range [][2]int{{65, 1}, {1, 65}, {65, 0}, {0, 65}} {
		if p, e := numeric.Product(make([]number, n[0]), make([]number, n[1])); e != api.ErrSize || len(p) > 0 {
			t.Errorf("Product of %v: %d, error %d", n, len(p), e)
		}
	}
	if p, e := numeric.Product(make([]number, 64), make([]number, 64)); e != api.OK || len(p) != 127 {
		t.Errorf("Product of the longest: %d, error %d", len(p), e)
	}
}
