package derive_test

import (
	"slices"
	"strings"
	"testing"

	"hackamore/api"
	"hackamore/check"
	"hackamore/derive"
	"hackamore/samples"
	"hackamore/types"
)

func bodies(l ...check.Body) check.Certificate { return check.Certificate{Bodies: l} }

// TestTexts: texts and what they are texts of.
func TestTexts(t *testing.T) {
	for s, c := range map[string]check.Certificate{
		"":                      bodies(),
		"body 0 0\n":            bodies(check.Body{}),
		"body 12 3\nbody 0 7\n": bodies(check.Body{Entity: 12, Method: 3}, check.Body{Method: 7}),
		"body 1 2\n-\nmain.Cell iso^\n(None val | U8 val)\nbody ref\n\"body 1 2\" val\n\"-\" val\n\"a\\nb\" val\n": bodies(check.Body{Entity: 1, Method: 2, Types: []api.Type{{}, ty("main.Cell iso^"), ty("(None val | U8 val)"),
			ty("body ref"), ty(`"body 1 2" val`), ty(`"-" val`), ty(`"a\nb" val`)}}),
		"body 9223372036854775807 0\n$A\nthis\n": bodies(check.Body{Entity: 1<<63 - 1, Types: tys("$A; this")}),
	} {
		if got, e := derive.Text(c); got != s || e != api.OK {
			t.Errorf("%q: error %d, not %q", got, e, s)
		}
		got, e := derive.Parse(s)
		if e != api.OK || !slices.EqualFunc(got.Bodies, c.Bodies, equal) {
			t.Errorf("%q: %v, error %d", s, got, e)
		}
	}
	for _, s := range []string{"3 4\n", "\n", "-\n", "U8 val\n", "body 0 0", "body 0 0\n-", "body 0 0\n\n", "body 00 0\n", "body 0 +1\n", "body 0 -1\n", "body 0\n", "body  0 0\n", "body 0 0 \n", "body 0 0 0\n", "Body 0 0\n",
		"body 0 9223372036854775808\n", "body a b\n", "body 0 0\r\n", "body 0 0\nU8\n", "body 0 0\nU8 val \n", "body 0 0\n--\n", "body 0 0\n(U8 val)\n", "body 0 0\n" + strings.Repeat("(", 300) + "\n",
		"body 0 0\n" + strings.Repeat("((U8 val, U8 val), ", 30) + "U8 val" + strings.Repeat(")", 30) + "\n", "body 0 0\nU8 val\nU8 val"} {
		if c, e := derive.Parse(s); e != api.ErrForm || len(c.Bodies) > 0 {
			t.Errorf("%.30q: error %d", s, e)
		}
	}
}

func equal(a, b check.Body) bool {
	return a.Entity == b.Entity && a.Method == b.Method && slices.EqualFunc(a.Types, b.Types, types.Equal)
}

// TestTextErrors: numbers, then types, then sizes.
func TestTextErrors(t *testing.T) {
	bad := api.Type{Kind: api.TypeName, Name: "U8"}
	wide := api.Type{Kind: api.TypeUnion, Args: make([]api.Type, 400)}
	long := api.Type{Kind: api.TypeTuple}
	for range 64 {
		long.Args = append(long.Args, api.Type{Kind: api.TypeName, Name: strings.Repeat("x", 300), Cap: api.Val})
	}
	fits := api.Type{Kind: api.TypeTuple, Args: slices.Clone(long.Args)}
	long.Args = append(long.Args[:63:63], api.Type{Kind: api.TypeTuple, Args: slices.Clone(long.Args[:10])})
	for _, l := range []struct {
		c check.Certificate
		e api.Errno
	}{
		{bodies(check.Body{Entity: -1}), api.ErrRange}, {bodies(check.Body{Types: []api.Type{bad}}, check.Body{Method: -1}), api.ErrRange},
		{bodies(check.Body{Types: []api.Type{ty("U8 val"), bad, wide}}), api.ErrForm}, {bodies(check.Body{Types: []api.Type{wide, bad}}), api.ErrSize}, {bodies(check.Body{Types: []api.Type{{Name: "x"}}}), api.ErrForm},
		{bodies(check.Body{Types: []api.Type{{Args: make([]api.Type, 400)}}}), api.ErrForm},
		{bodies(check.Body{Types: []api.Type{long}}), api.ErrSize}, {bodies(check.Body{Types: []api.Type{long, bad}}), api.ErrForm}, {bodies(check.Body{Types: []api.Type{fits}}), api.OK},
		{bodies(check.Body{Types: slices.Repeat([]api.Type{fits}, 51)}), api.OK}, {bodies(check.Body{Types: slices.Repeat([]api.Type{fits}, 52)}), api.ErrSize},
	} {
		s, e := derive.Text(l.c)
		if e != l.e || e != api.OK && s != "" {
			t.Errorf("%d bodies: error %d, not %d", len(l.c.Bodies), e, l.e)
		}
		if got, wrong := derive.Parse(s); e == api.OK && (wrong != api.OK || !slices.EqualFunc(got.Bodies, l.c.Bodies, equal)) {
			t.Errorf("a text of %d bytes: error %d", len(s), wrong)
		}
	}
	for n, want := range map[int]api.Errno{206: api.OK, 207: api.ErrSize} {
		full := api.Type{Kind: api.TypeTuple, Args: slices.Clone(fits.Args)}
		full.Args[0].Name = strings.Repeat("\"", 206) + strings.Repeat("x", 94)
		full.Args[1].Name = strings.Repeat("\"", n) + strings.Repeat("x", 300-n)
		if s, _ := types.Text(full); len(s) != 20000+n-206 {
			t.Fatalf("a text of %d bytes", len(s))
		}
		if s, e := derive.Text(bodies(check.Body{Types: []api.Type{full}})); e != want || e != api.OK && s != "" {
			t.Errorf("%d: error %d", n, e)
		}
	}
	exact := check.Body{Types: make([]api.Type, 0, 500000)}
	for len(exact.Types) < (derive.MaxText-9)/2 {
		exact.Types = append(exact.Types, api.Type{})
	}
	if s, e := derive.Text(bodies(exact)); e != api.OK || len(s) != derive.MaxText-1 {
		t.Errorf("%d bytes: error %d", len(s), e)
	}
	exact.Entity = 10
	s, e := derive.Text(bodies(exact))
	if e != api.OK || len(s) != derive.MaxText {
		t.Errorf("%d bytes: error %d", len(s), e)
	}
	if c, e := derive.Parse(s); e != api.OK || len(c.Bodies) != 1 || len(c.Bodies[0].Types) != len(exact.Types) {
		t.Errorf("the longest text: error %d", e)
	}
	if _, e := derive.Parse(s + "\n"); e != api.ErrSize {
		t.Errorf("a text that is too long: error %d", e)
	}
	exact.Entity = 100
	if s, e := derive.Text(bodies(exact)); e != api.ErrSize || s != "" {
		t.Errorf("%d bytes: error %d", len(s), e)
	}
}

// TestWeaker: another type at one place, and nothing else.
func TestWeaker(t *testing.T) {
	c := bodies(check.Body{Entity: 1, Types: tys("U8 val; (U8 val | None val)")}, check.Body{Method: 4, Types: tys("Any tag")}, check.Body{})
	for _, l := range []struct {
		body, expr int
		t          api.Type
		e          api.Errno
	}{
		{-1, 0, ty("U8 val"), api.ErrRange}, {3, 0, ty("U8 val"), api.ErrRange}, {0, -1, ty("U8 val"), api.ErrRange}, {0, 2, api.Type{Kind: 99}, api.ErrRange}, {2, 0, ty("U8 val"), api.ErrRange},
		{0, 0, api.Type{Kind: 99}, api.ErrForm}, {0, 0, api.Type{Name: "x"}, api.ErrForm}, {0, 0, api.Type{Kind: 3, Args: make([]api.Type, 400)}, api.ErrSize}, {0, 1, api.Type{}, api.OK}, {1, 0, ty("(A ref, B ref)"), api.OK},
	} {
		w, e := derive.Weaker(c, l.body, l.expr, l.t)
		if e != l.e || e != api.OK && len(w.Bodies) > 0 {
			t.Errorf("%v: error %d", l, e)
		}
		if e != api.OK {
			continue
		}
		for i, b := range w.Bodies {
			for j, x := range b.Types {
				want := c.Bodies[i].Types[j]
				if i == l.body && j == l.expr {
					want = l.t
				}
				if !types.Equal(x, want) || b.Entity != c.Bodies[i].Entity || b.Method != c.Bodies[i].Method {
					t.Errorf("%v: %v at %d, %d", l, x, i, j)
				}
			}
		}
	}
	w, _ := derive.Weaker(c, 0, 0, ty("(A ref, B ref)"))
	w.Bodies[0].Types[1].Args[0].Name = "X"
	w.Bodies[1].Types[0].Name = "X"
	if s, _ := derive.Text(c); s != "body 1 0\nU8 val\n(U8 val | None val)\nbody 0 4\nAny tag\nbody 0 0\n" {
		t.Errorf("the memory is shared: %s", s)
	}
}

// TestOdd: any certificates have a text from which they come, or an error; any texts have a certificate with just this text.
func TestOdd(t *testing.T) {
	texts := 0
	for seed := range uint64(4000) {
		m := samples.New(seed)
		var c check.Certificate
		for range m.Below(4) {
			b := check.Body{Entity: m.Number(), Method: m.Below(9)}
			for range m.Below(4) {
				b.Types = append(b.Types, m.AnyType(3))
				if m.Below(3) > 0 {
					b.Types[len(b.Types)-1] = m.CoreType(3, map[string]int{"A": 0, "B": 1, "main.C": 2}, "x")
				}
			}
			c.Bodies = append(c.Bodies, b)
		}
		s, e := derive.Text(c)
		if e == api.OK {
			texts++
			if got, wrong := derive.Parse(s); wrong != api.OK || !slices.EqualFunc(got.Bodies, c.Bodies, equal) {
				t.Fatalf("%q: %v, error %d", s, got, wrong)
			}
		} else if s != "" {
			t.Fatalf("%q, error %d", s, e)
		}
		if len(s) > 0 {
			at := m.Below(len(s))
			s = s[:at] + m.One("", "\n", " ", "-", "0", "body 1 1\n", "!", "x") + s[at+m.Below(2):]
		}
		got, e := derive.Parse(s)
		if back, wrong := derive.Text(got); e == api.OK && (wrong != api.OK || back != s) {
			t.Fatalf("%q comes back as %q, error %d", s, back, wrong)
		}
		if w, e := derive.Weaker(c, 0, 0, m.AnyType(2)); e != api.OK && len(w.Bodies) > 0 {
			t.Fatalf("%d: error %d", seed, e)
		}
	}
	if texts < 1000 {
		t.Errorf("only %d texts", texts)
	}
}
