package cap_test

import (
	"slices"
	"strings"
	"testing"

	"hackamore/api"
	. "hackamore/cap"
)

var six = []int{api.Iso, api.Trn, api.Ref, api.Val, api.Box, api.Tag}

// odd are numbers that are no capabilities of objects.
var odd = []int{-1 << 63, -1, 0, 7, 8, 9, 10, 11, 12, 13, 1 << 40}

// marks are the marks, and some numbers that are none.
var marks = []int{api.Plain, api.Ephemeral, api.Aliased}

// read returns the capability and the mark of a text like iso^.
func read(t *testing.T, s string) (int, int) {
	t.Helper()
	c, e := Parse(strings.TrimRight(s, "^!"))
	if e != api.OK {
		t.Fatalf("Parse of %s: error %d", s, e)
	}
	return c, map[byte]int{'^': api.Ephemeral, '!': api.Aliased}[s[len(s)-1]]
}

func show(c, mark int) string { return Name(c) + []string{"", "^", "!"}[mark] }

// TestNames: P7.1 and P7.5: names, and the numbers that they have.
func TestNames(t *testing.T) {
	for i, want := range strings.Fields("iso trn ref val box tag #read #send #share #alias #any") {
		if got := Name(i + 1); got != want {
			t.Errorf("Name of %d: %q, want %q", i+1, got, want)
		}
		if c, e := Parse(want); c != i+1 || e != api.OK {
			t.Errorf("Parse of %q: %d, error %d", want, c, e)
		}
	}
	for _, c := range []int{-1, 0, 12, 1 << 40, -1 << 63} {
		if Name(c) != "" {
			t.Errorf("Name of %d: %q", c, Name(c))
		}
	}
	for _, s := range []string{"", "ISO", "iso^", " iso", "#", "read", "#reads", "#any "} {
		if c, e := Parse(s); c != 0 || e != api.ErrNone {
			t.Errorf("Parse of %q: %d, error %d", s, c, e)
		}
	}
}

// TestMembers: P7.5: the members of the sets.
func TestMembers(t *testing.T) {
	for set, want := range map[int]string{
		api.CapRead: "ref val box", api.CapSend: "iso val tag", api.CapShare: "val tag", api.CapAlias: "ref val box tag",
		api.CapAny: "iso trn ref val box tag", api.Iso: "iso", api.Trn: "trn", api.Ref: "ref", api.Val: "val", api.Box: "box",
		api.Tag: "tag", 0: "", -1: "", 12: "", 1 << 40: "",
	} {
		var got []string
		for _, c := range Members(set) {
			got = append(got, Name(c))
		}
		if strings.Join(got, " ") != want {
			t.Errorf("Members of %d: %v, want %s", set, got, want)
		}
	}
	Members(api.CapAny)[0] = 99
	if Members(api.CapAny)[0] != api.Iso {
		t.Error("a list of members is kept")
	}
}

// TestPermits: what capabilities permit, and which may be sent.
func TestPermits(t *testing.T) {
	for c := -2; c < 14; c++ {
		name := " " + Name(c) + " "
		is := c >= 1 && c <= 6
		for what, x := range map[string][2]bool{
			"Is":       {Is(c), is},
			"Reads":    {Reads(c), is && strings.Contains(" iso trn ref val box ", name)},
			"Writes":   {Writes(c), is && strings.Contains(" iso trn ref ", name)},
			"Sendable": {Sendable(c), is && strings.Contains(" iso val tag ", name)},
		} {
			if x[0] != x[1] {
				t.Errorf("%s of %d: %v", what, c, x[0])
			}
		}
	}
}

// fitting is the table of Fits, as the chapter has it.
const fitting = `iso^ iso^ iso iso! trn^ trn trn! ref val box tag
iso iso iso! tag
iso! iso! tag
trn^ trn^ trn trn! ref val box tag
trn trn trn! box tag
trn! trn! box tag
ref ref box tag
val val box tag
box box tag
tag tag`

// common returns the text without marks that play no part.
func common(c, mark int) string {
	if c > api.Trn {
		mark = api.Plain
	}
	return show(c, mark)
}

// TestFits: the table of Fits for all capabilities and marks, and Sub.
func TestFits(t *testing.T) {
	table := map[string][]string{}
	for line := range strings.Lines(fitting) {
		l := strings.Fields(line)
		table[l[0]] = l[1:]
	}
	for _, a := range six {
		for _, b := range six {
			for _, m := range marks {
				for _, n := range marks {
					want := slices.Contains(table[common(a, m)], common(b, n))
					if Fits(a, m, b, n) != want {
						t.Errorf("Fits of %s and %s: %v", show(a, m), show(b, n), !want)
					}
				}
			}
			if Sub(a, b) != Fits(a, api.Ephemeral, b, api.Plain) {
				t.Errorf("Sub of %s and %s: %v", Name(a), Name(b), Sub(a, b))
			}
		}
	}
}

// TestFitsOrder: P7.2.
func TestFitsOrder(t *testing.T) {
	type marked struct{ c, m int }
	var all []marked
	for _, c := range six {
		for _, m := range marks {
			all = append(all, marked{c, m})
		}
	}
	for _, a := range all {
		if !Fits(a.c, a.m, a.c, a.m) {
			t.Errorf("%s does not fit itself", show(a.c, a.m))
		}
		for _, b := range all {
			if !Fits(a.c, a.m, b.c, b.m) {
				continue
			}
			if Reads(b.c) && !Reads(a.c) || Writes(b.c) && !Writes(a.c) {
				t.Errorf("%s, which %s fits, permits more", show(b.c, b.m), show(a.c, a.m))
			}
			for _, c := range all {
				if Fits(b.c, b.m, c.c, c.m) && !Fits(a.c, a.m, c.c, c.m) {
					t.Errorf("%s fits %s, this fits %s, but not the first one", show(a.c, a.m), show(b.c, b.m), show(c.c, c.m))
				}
			}
		}
		if !Fits(api.Iso, api.Ephemeral, a.c, a.m) || a.m == api.Plain && !Sub(api.Iso, a.c) {
			t.Errorf("iso^ does not fit %s", show(a.c, a.m))
		}
	}
}

// TestMarks: Alias and Consumed.
func TestMarks(t *testing.T) {
	for s, want := range map[string]string{
		"iso^": "iso iso^", "iso": "iso! iso^", "iso!": "iso! iso!", "trn^": "trn trn^", "trn": "trn! trn^", "trn!": "trn! trn!",
		"ref": "ref ref", "ref^": "ref ref", "ref!": "ref ref", "val": "val val", "val^": "val val", "val!": "val val",
		"box": "box box", "box^": "box box", "box!": "box box", "tag": "tag tag", "tag^": "tag tag", "tag!": "tag tag",
	} {
		c, m := read(t, s)
		if got := show(Alias(c, m)) + " " + show(Consumed(c, m)); got != want {
			t.Errorf("Alias and Consumed of %s: %s, want %s", s, got, want)
		}
	}
}

// views is the table of View, as the chapter has it.
const views = `iso iso tag tag val tag tag
trn iso trn box val box tag
ref iso trn ref val box tag
val val val val val val tag
box tag box box val box tag`

// TestViews: View, and P7.3.
func TestViews(t *testing.T) {
	for line := range strings.Lines(views) {
		l := strings.Fields(line)
		origin, _ := Parse(l[0])
		for i, field := range six {
			c, ok := View(origin, field)
			if !ok || Name(c) != l[i+1] {
				t.Errorf("View of %s and %s: %s, %v, want %s", l[0], Name(field), Name(c), ok, l[i+1])
			}
			if Reads(c) && !Reads(field) || Writes(c) && !(Writes(field) && Writes(origin)) {
				t.Errorf("View of %s and %s permits more: %s", l[0], Name(field), Name(c))
			}
		}
	}
	for _, field := range six {
		if c, ok := View(api.Tag, field); c != 0 || ok {
			t.Errorf("View of tag and %s: %d, %v", Name(field), c, ok)
		}
		if c, _ := View(api.Ref, field); c != field {
			t.Errorf("through ref %s is %s", Name(field), Name(c))
		}
	}
}

// TestExtract: Extract, and the last part of P7.3.
func TestExtract(t *testing.T) {
	for origin, want := range map[string]string{
		"iso": "iso^ tag tag val tag tag", "trn": "iso^ box box val box tag", "ref": "iso^ trn^ ref val box tag",
		"val": "", "box": "", "tag": "",
	} {
		from, _ := Parse(origin)
		var got []string
		for _, field := range six {
			c, m, ok := Extract(from, field)
			if !ok && (c != 0 || m != 0) || ok != Writes(from) {
				t.Errorf("Extract of %s and %s: %d, %d, %v", origin, Name(field), c, m, ok)
			}
			if Reads(c) && !Reads(field) || Writes(c) && !Writes(field) {
				t.Errorf("Extract of %s and %s permits more", origin, Name(field))
			}
			if ok {
				got = append(got, show(c, m))
			}
		}
		if strings.Join(got, " ") != want {
			t.Errorf("Extract through %s: %v, want %s", origin, got, want)
		}
	}
}

// TestStore: what may be written through an origin.
func TestStore(t *testing.T) {
	takes := map[int]string{api.Ref: " iso trn ref val box tag ", api.Trn: " iso trn val tag ", api.Iso: " iso val tag "}
	for _, origin := range six {
		for _, c := range six {
			for _, m := range marks {
				counted := map[string]string{"iso!": "tag", "trn!": "box"}[show(c, m)]
				if counted == "" {
					counted = Name(c)
				}
				if want := strings.Contains(takes[origin], " "+counted+" "); Store(origin, c, m) != want {
					t.Errorf("Store of %s through %s: %v", show(c, m), Name(origin), !want)
				}
			}
		}
	}
}

// TestRecover: what recovered values have.
func TestRecover(t *testing.T) {
	for s, want := range map[string]string{"iso": "iso", "trn": "iso", "ref": "iso", "val": "val", "box": "val", "tag": "tag"} {
		c, _ := Parse(s)
		if got, ok := Recover(c); !ok || Name(got) != want {
			t.Errorf("Recover of %s: %s, %v", s, Name(got), ok)
		}
	}
}

// TestBeside: Local and Global, and P7.4.
func TestBeside(t *testing.T) {
	local := map[string]string{"iso": "tag", "trn": "box tag", "ref": "ref box tag", "val": "val box tag", "box": "trn ref val box tag", "tag": "iso trn ref val box tag"}
	global := map[string]string{"iso": "tag", "trn": "tag", "ref": "tag", "val": "val box tag", "box": "val box tag", "tag": "iso trn ref val box tag"}
	for _, a := range six {
		for _, b := range six {
			l, g := slices.Contains(strings.Fields(local[Name(a)]), Name(b)), slices.Contains(strings.Fields(global[Name(a)]), Name(b))
			if Local(a, b) != l || Global(a, b) != g {
				t.Errorf("%s beside %s: Local %v, Global %v", Name(a), Name(b), !l, !g)
			}
			if l != Local(b, a) || g != Global(b, a) || g && !l || g && Writes(a) && Reads(b) {
				t.Errorf("%s beside %s: not as P7.4 says", Name(a), Name(b))
			}
			if c, m := Alias(a, api.Plain); Fits(c, m, b, api.Plain) && !l {
				t.Errorf("an alias of %s fits %s, which may not stand beside it", Name(a), Name(b))
			}
			if !Sendable(b) || !Sub(a, b) {
				continue
			}
			for _, c := range six {
				if Global(a, c) && !Global(b, c) {
					t.Errorf("%s was given up as %s, and %s stands in another actor", Name(a), Name(b), Name(c))
				}
			}
		}
	}
}

// TestNoCaps: all functions for numbers that are no capabilities, or no marks.
func TestNoCaps(t *testing.T) {
	check := func(a, m, b, n int) {
		if Fits(a, m, b, n) || Store(b, a, m) && !(Is(b) && Is(a) && m >= 0 && m <= 2) {
			t.Errorf("Fits or Store of %d with %d, %d with %d", a, m, b, n)
		}
	}
	for _, a := range odd {
		for _, b := range append(slices.Clone(odd), six...) {
			check(a, 0, b, 0)
			check(b, 0, a, 0)
			c, ok := View(a, b)
			d, other := View(b, a)
			x, m, third := Extract(a, b)
			y, n, fourth := Extract(b, a)
			if c != 0 || d != 0 || x != 0 || y != 0 || m != 0 || n != 0 || ok || other || third || fourth {
				t.Errorf("View or Extract of %d and %d", a, b)
			}
			if Sub(a, b) || Sub(b, a) || Local(a, b) || Local(b, a) || Global(a, b) || Global(b, a) || Store(a, b, 0) || Store(b, a, 0) {
				t.Errorf("%d and %d: something holds", a, b)
			}
		}
		c, m := Alias(a, 0)
		d, n := Consumed(a, 0)
		x, ok := Recover(a)
		if c != 0 || m != 0 || d != 0 || n != 0 || x != 0 || ok {
			t.Errorf("Alias, Consumed or Recover of %d", a)
		}
	}
	for _, mark := range []int{-1, 3, 4, 1 << 40, -1 << 63} {
		for _, a := range six {
			check(a, mark, a, 0)
			check(a, 0, a, mark)
			c, m := Alias(a, mark)
			d, n := Consumed(a, mark)
			if c != 0 || m != 0 || d != 0 || n != 0 || Store(api.Ref, a, mark) {
				t.Errorf("Alias, Consumed or Store of %s with the mark %d", Name(a), mark)
			}
		}
	}
}
