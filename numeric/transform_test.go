package numeric_test

import (
	"math"
	"slices"
	"testing"

	"hackamore/api"
	"hackamore/numeric"
	"hackamore/samples"
)

// TestTwiddles: the factors, by their definition.
func TestTwiddles(t *testing.T) {
	known := map[int]number{2: {math.Float32bits(-1), negative}, 4: {0, math.Float32bits(-1)}}
	c := 0.0
	for n := 8; n <= 64; n *= 2 {
		s := math.Sqrt((1 - c) / 2)
		c = math.Sqrt((1 + c) / 2)
		known[n] = number{rounded(c), rounded(-s)}
	}
	for n := -1; n <= 130; n++ {
		l, e := numeric.Twiddles(n)
		if !slices.Contains([]int{1, 2, 4, 8, 16, 32, 64}, n) {
			if e != api.ErrSize || len(l) > 0 {
				t.Errorf("Twiddles(%d): %x, error %d", n, l, e)
			}
			continue
		}
		if e != api.OK || len(l) != n || l[0] != of(1, 0) || n > 1 && l[1] != known[n] {
			t.Fatalf("Twiddles(%d): %x, error %d", n, l, e)
		}
		for m := 2; m < n; m++ {
			if l[m] != product(l[m-1], l[1]) {
				t.Errorf("Twiddles(%d)[%d]: %x", n, m, l[m])
			}
		}
		for m, w := range l {
			re, im := math.Cos(2*math.Pi*float64(m)/float64(n)), -math.Sin(2*math.Pi*float64(m)/float64(n))
			if math.Abs(f(w.Re)-re) > 1e-5 || math.Abs(f(w.Im)-im) > 1e-5 {
				t.Errorf("Twiddles(%d)[%d]: %x", n, m, w)
			}
		}
	}
	for _, n := range []int{math.MinInt, math.MaxInt, 1 << 32} {
		if _, e := numeric.Twiddles(n); e != api.ErrSize {
			t.Errorf("Twiddles(%d): error %d", n, e)
		}
	}
}

// slow is the transform by its definition, with lists that are taken apart by indices.
func slow(l []number) []number {
	n := len(l)
	if n == 1 {
		return []number{{clean(l[0].Re), clean(l[0].Im)}}
	}
	var halves [2][]number
	for i, x := range l {
		halves[i%2] = append(halves[i%2], x)
	}
	e, o := slow(halves[0]), slow(halves[1])
	w, _ := numeric.Twiddles(n)
	r := make([]number, n)
	for k := range e {
		x := product(w[k], o[k])
		r[k] = number{plus(e[k].Re, x.Re), plus(e[k].Im, x.Im)}
		r[k+n/2] = number{minus(e[k].Re, x.Re), minus(e[k].Im, x.Im)}
	}
	return r
}

func slowInverse(l []number) []number {
	var turned []number
	for _, x := range l {
		turned = append(turned, conj(x))
	}
	r := slow(turned)
	n := math.Float32bits(float32(len(l)))
	for i, x := range r {
		x = conj(x)
		r[i] = number{over(x.Re, n), over(x.Im, n)}
	}
	return r
}

// TestTransforms: by the definition, bit by bit, for all lengths; errors for others.
func TestTransforms(t *testing.T) {
	m := samples.New(64)
	for round := range 300 {
		for _, n := range []int{1, 2, 4, 8, 16, 32, 64} {
			l := small(m, n, 1000)
			if round%2 == 0 {
				for i := range l {
					l[i] = any(m)
				}
			}
			before := slices.Clone(l)
			if got, e := numeric.Transform(l, false); e != api.OK || !slices.Equal(got, slow(l)) {
				t.Fatalf("Transform of %x: %x, error %d", l, got, e)
			}
			if got, e := numeric.Transform(l, true); e != api.OK || !slices.Equal(got, slowInverse(l)) {
				t.Fatalf("inverse of %x: %x, error %d", l, got, e)
			}
			if !slices.Equal(l, before) {
				t.Fatal("the argument was changed")
			}
		}
	}
	for n := range 140 {
		right := n > 0 && n <= 64 && n&(n-1) == 0
		for _, inverse := range []bool{false, true} {
			if l, e := numeric.Transform(make([]number, n), inverse); (e == api.OK) != right || !right && (e != api.ErrSize || len(l) > 0) {
				t.Errorf("Transform of %d: error %d", n, e)
			}
		}
		if l, e := numeric.Spectrum(make([]uint32, n)); (e == api.OK) != right || !right && (e != api.ErrSize || len(l) > 0) {
			t.Errorf("Spectrum of %d: error %d", n, e)
		}
	}
	one := []number{{odd, negative}}
	transformed(t, one, number{nan, negative})
	if l, _ := numeric.Transform(one, false); &l[0] == &one[0] {
		t.Error("the result shares its memory with the argument")
	}
}

func same(a, b []number) bool { return slices.EqualFunc(a, b, equal) }

// TestTransformLaws: back again, sums, and lists that are turned (P16.3), and spectra of these (P16.5).
func TestTransformLaws(t *testing.T) {
	m := samples.New(5)
	for range 5000 {
		n := 1 << m.Below(3)
		a, b := small(m, n, 1000), small(m, n, 1000)
		fa, _ := numeric.Transform(a, false)
		fb, _ := numeric.Transform(b, false)
		if back, _ := numeric.Transform(fa, true); !same(back, a) {
			t.Fatalf("%x comes back as %x", a, back)
		}
		var sum, sums, turned, wanted []number
		w, _ := numeric.Twiddles(n)
		for i := range n {
			sum, sums = append(sum, numeric.Add(a[i], b[i])), append(sums, numeric.Add(fa[i], fb[i]))
			turned, wanted = append(turned, a[(i+n-1)%n]), append(wanted, numeric.Mul(fa[i], w[i]))
		}
		if got, _ := numeric.Transform(sum, false); !same(got, sums) {
			t.Fatalf("the transform of the sum of %x and %x is %x", a, b, got)
		}
		if got, _ := numeric.Transform(turned, false); !same(got, wanted) {
			t.Fatalf("the transform of %x is %x, not %x", turned, got, wanted)
		}
	}
}

// TestSpectra: by their definition, and turned.
func TestSpectra(t *testing.T) {
	m := samples.New(6)
	for round := range 3000 {
		n := 1 << m.Below(7)
		l, points := make([]uint32, n), make([]number, n)
		for i := range l {
			l[i] = bits(m)
			if round%2 == 0 {
				l[i] = math.Float32bits(float32(m.Below(2001) - 1000))
			}
			points[i].Re = l[i]
		}
		got, e := numeric.Spectrum(l)
		if e != api.OK || len(got) != n/2+1 {
			t.Fatalf("Spectrum of %d: %d, error %d", n, len(got), e)
		}
		for k, x := range slow(points)[:n/2+1] {
			if got[k] != plus(times(x.Re, x.Re), times(x.Im, x.Im)) {
				t.Fatalf("Spectrum of %x: %x", l, got)
			}
		}
		if n <= 4 && round%2 == 0 {
			turned := append(slices.Clone(l[1:]), l[0])
			if again, _ := numeric.Spectrum(turned); !slices.Equal(again, got) {
				t.Fatalf("Spectrum of %x: %x, turned %x", l, got, again)
			}
		}
	}
}
