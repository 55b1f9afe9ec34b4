package flow_test

import (
	"cmp"
	"maps"
	"reflect"
	"slices"
	"strings"
	"testing"
	"time"

	"hackamore/api"
	. "hackamore/flow"
	"hackamore/samples"
)

// state has a bit for each variable that has a value, and one for each that was assigned; slow runs a body with the
// set of all states that may be there, one by one, which is too slow for large bodies, but plain.
type (
	state  uint64
	states map[state]bool
)

type outs struct{ end, failed, returned, broken, continued states }

type slow struct {
	slots   []string // locals, and fields with a point ahead
	kind    int
	partial bool
	lets    map[string]bool
	fields  []string
	faults  map[string]Fault
	ahead   map[string]states // the states ahead of each node
	caught  int
	looped  bool
	used    bool
	origin  bool // whether the node is the first kid of an OpGet or an OpSet of the receiver
}

func (s *slow) bit(name string, was bool) state {
	i := slices.Index(s.slots, name)
	if i < 0 {
		i = len(s.slots)
		s.slots = append(s.slots, name)
	}
	if was {
		i += 32
	}
	return 1 << i
}

func (s *slow) fault(code api.Errno, path []int) {
	s.faults[pathText(path)+code.Error()] = Fault{code, slices.Clone(path)}
}

func (s *slow) any(l states, lacks ...state) bool {
	for x := range l {
		for _, b := range lacks {
			if x&b == 0 {
				return true
			}
		}
	}
	return false
}

func (s *slow) fieldBits() []state {
	var l []state
	for _, f := range s.fields {
		l = append(l, s.bit("."+f, false))
	}
	return l
}

func changed(l states, do func(x state) state) states {
	out := states{}
	for x := range l {
		out[do(x)] = true
	}
	return out
}

func add(to *states, l ...states) {
	if *to == nil {
		*to = states{}
	}
	for _, x := range l {
		maps.Copy(*to, x)
	}
}

func (o *outs) leaves(l ...outs) {
	for _, x := range l {
		add(&o.failed, x.failed)
		add(&o.returned, x.returned)
		add(&o.broken, x.broken)
		add(&o.continued, x.continued)
	}
}

// run runs a kid, or the body, with what its place says.
func (s *slow) run(x api.Expr, path []int, in states, used bool) outs {
	if len(in) == 0 || x.Op == 0 {
		return outs{end: in}
	}
	before := s.ahead[pathText(path)]
	add(&before, in)
	s.ahead[pathText(path)] = before
	old := s.used
	s.used = used
	o := s.node(x, path, in)
	s.used, s.origin = old, false
	return o
}

func (s *slow) kids(x api.Expr, path []int, in states, used func(i int) bool) outs {
	o := outs{end: in}
	for i, k := range x.Kids {
		if len(o.end) == 0 {
			if x.Op == api.OpSeq {
				s.fault(ErrDead, append(slices.Clip(path), i))
			}
			break
		}
		r := s.run(k, append(slices.Clip(path), i), o.end, used(i))
		o.leaves(r)
		o.end = r.end
	}
	return o
}

func (s *slow) node(x api.Expr, path []int, in states) outs {
	at := func(i int) []int { return append(slices.Clip(path), i) }
	always := func(int) bool { return true }
	used := s.used
	has, was := s.bit(x.Text, false), s.bit(x.Text, true)
	set := func(y state) state { return y | has | was }
	switch x.Op {
	case api.OpLocal, api.OpConsume:
		if s.any(in, has) {
			s.fault(ErrUnset, path)
		}
		if x.Op == api.OpConsume {
			in = changed(in, func(y state) state { return y &^ has })
		}
		return outs{end: in}
	case api.OpThis:
		if s.kind == api.New && s.any(in, s.fieldBits()...) && !s.origin {
			s.fault(ErrField, path)
		}
		return outs{end: in}
	case api.OpGet, api.OpSet:
		return s.field(x, path, in, used)
	case api.OpVar, api.OpLet:
		o := s.kids(x, path, in, always)
		if len(x.Kids) == 0 {
			set = func(y state) state { return y &^ (has | was) }
		}
		o.end = changed(o.end, set)
		return o
	case api.OpAssign:
		o := s.kids(x, path, in, always)
		if used && s.any(o.end, has) {
			s.fault(ErrUnset, path)
		}
		if s.lets[x.Text] && s.anyHas(o.end, was) {
			s.fault(ErrSet, path)
		}
		o.end = changed(o.end, set)
		return o
	case api.OpSeq:
		return s.kids(x, path, in, func(i int) bool { return used && i == len(x.Kids)-1 })
	case api.OpIf:
		c := s.run(x.Kids[0], at(0), in, true)
		a, b := s.run(x.Kids[1], at(1), c.end, used), s.run(x.Kids[2], at(2), c.end, used)
		o := outs{}
		o.leaves(c, a, b)
		add(&o.end, a.end, b.end)
		return o
	case api.OpWhile:
		return s.while(x, path, in, used)
	case api.OpMatch:
		o := s.run(x.Kids[0], at(0), in, true)
		next := o.end
		o.end = states{}
		for i := 1; i < len(x.Kids); i++ {
			if len(next) == 0 {
				break
			}
			before := s.ahead[pathText(at(i))]
			add(&before, next)
			s.ahead[pathText(at(i))] = before
			next = s.matchCase(x.Kids[i], at(i), next, used, &o)
		}
		add(&o.end, next)
		return o
	case api.OpTry:
		return s.try(x, path, in, used)
	case api.OpError:
		return s.fail(path, in)
	case api.OpReturn:
		o := s.kids(x, path, in, func(int) bool { return s.kind == api.Fun })
		if s.kind == api.New && s.any(o.end, s.fieldBits()...) {
			s.fault(ErrField, path)
		}
		add(&o.returned, o.end)
		o.end = nil
		return o
	case api.OpBreak, api.OpContinue:
		switch {
		case !s.looped:
			s.fault(ErrLoop, path)
			return outs{}
		case x.Op == api.OpBreak:
			return outs{broken: in}
		}
		return outs{continued: in}
	case api.OpCall, api.OpNew:
		o := s.kids(x, path, in, always)
		if x.Text == "e" && len(o.end) > 0 {
			o.leaves(s.fail(path, o.end))
		}
		return o
	case api.OpRecover:
		return s.kids(x, path, in, func(int) bool { return used })
	}
	return s.kids(x, path, in, always)
}

func (s *slow) anyHas(l states, b state) bool {
	for x := range l {
		if x&b != 0 {
			return true
		}
	}
	return false
}

func (s *slow) field(x api.Expr, path []int, in states, used bool) outs {
	this := x.Kids[0].Op == api.OpThis
	s.origin = this
	o := s.kids(x, path, in, func(int) bool { return true })
	if !this || !slices.Contains(s.fields, x.Text) || len(o.end) == 0 {
		return o
	}
	has, was := s.bit("."+x.Text, false), s.bit("."+x.Text, true)
	if s.kind == api.New && (x.Op == api.OpGet || used) && s.any(o.end, has) {
		s.fault(ErrUnset, path)
	}
	if x.Op == api.OpGet {
		return o
	}
	if x.Text == "f" && (s.kind != api.New || s.anyHas(o.end, was)) {
		s.fault(ErrSet, path)
	}
	if s.kind == api.New {
		o.end = changed(o.end, func(y state) state { return y | has | was })
	}
	return o
}

func (s *slow) fail(path []int, in states) outs {
	if s.caught == 0 && !s.partial {
		s.fault(ErrPartial, path)
	}
	return outs{failed: in}
}

func (s *slow) while(x api.Expr, path []int, in states, used bool) outs {
	at := func(i int) []int { return append(slices.Clip(path), i) }
	head := maps.Clone(in)
	outer := s.looped
	for {
		before := len(head)
		s.looped = true
		c := s.run(x.Kids[0], at(0), head, true)
		b := s.run(x.Kids[1], at(1), c.end, used)
		s.looped = outer
		add(&head, c.continued, b.end, b.continued)
		if len(head) > before {
			continue
		}
		e := s.run(x.Kids[2], at(2), c.end, used)
		var o outs
		o.leaves(c, b, e)
		o.broken, o.continued = e.broken, e.continued
		add(&o.end, e.end, c.broken, b.broken)
		if len(b.end)+len(b.continued) > 0 {
			add(&o.end, c.end)
		}
		return o
	}
}

func (s *slow) matchCase(c api.Expr, path []int, in states, used bool, o *outs) states {
	at := func(i int) []int { return append(slices.Clip(path), i) }
	has, was := s.bit(c.Text, false), s.bit(c.Text, true)
	bind := func(y state) state { return y | has | was }
	gone := func(y state) state { return y&^has | was }
	if c.Text == "" {
		bind = func(y state) state { return y }
		gone = bind
	}
	g := s.run(c.Kids[0], at(0), changed(in, bind), true)
	b := s.run(c.Kids[1], at(1), g.end, used)
	o.leaves(g, b)
	add(&o.end, changed(b.end, gone))
	next := changed(in, gone)
	if c.Kids[0].Op != 0 {
		add(&next, changed(g.end, gone))
	}
	return next
}

func (s *slow) try(x api.Expr, path []int, in states, used bool) outs {
	at := func(i int) []int { return append(slices.Clip(path), i) }
	s.caught++
	a := s.run(x.Kids[0], at(0), in, used)
	s.caught--
	b := s.run(x.Kids[1], at(1), a.failed, used)
	a.failed = nil
	var w, o outs
	w.leaves(a, b)
	add(&w.end, a.end, b.end)
	behind := func(l states) states {
		t := s.run(x.Kids[2], at(2), l, false)
		if x.Kids[2].Op != 0 {
			o.leaves(t)
		}
		return t.end
	}
	end, failed, returned, broken, continued := behind(w.end), behind(w.failed), behind(w.returned), behind(w.broken), behind(w.continued)
	add(&o.end, end)
	add(&o.failed, failed)
	add(&o.returned, returned)
	add(&o.broken, broken)
	add(&o.continued, continued)
	return o
}

// report runs a method in the slow way.
func report(m api.Method) (Report, *slow) {
	s := &slow{kind: m.Kind, partial: m.Partial, lets: map[string]bool{}, fields: []string{"f", "g"}, faults: map[string]Fault{}, ahead: map[string]states{}}
	start := state(0)
	for _, p := range m.Params {
		start |= s.bit(p.Name, false) | s.bit(p.Name, true)
		s.lets[p.Name] = true
	}
	var lets func(x api.Expr)
	lets = func(x api.Expr) {
		if x.Op == api.OpLet || x.Op == api.OpCase && x.Text != "" {
			s.lets[x.Text] = true
		}
		for _, k := range x.Kids {
			lets(k)
		}
	}
	lets(m.Body)
	o := s.run(m.Body, nil, states{start: true}, m.Kind == api.Fun)
	if m.Kind == api.New && s.any(o.end, s.fieldBits()...) {
		s.fault(ErrField, nil)
	}
	if m.Partial && len(o.failed) == 0 {
		s.fault(ErrPartial, nil)
	}
	r := Report{Errors: len(o.failed) > 0, Ends: len(o.end)+len(o.returned) > 0}
	r.Faults = slices.SortedFunc(maps.Values(s.faults), func(a, b Fault) int {
		return cmp.Or(slices.Compare(a.Path, b.Path), cmp.Compare(a.Code, b.Code))
	})
	if m.Kind == api.New && r.Ends {
		add(&o.end, o.returned)
		for _, f := range s.fields {
			if !s.any(o.end, s.bit("."+f, false)) {
				r.Fields = append(r.Fields, f)
			}
		}
	}
	return r, s
}

// paths returns the paths of all nodes that are not none.
func paths(x api.Expr, at []int) [][]int {
	l := [][]int{slices.Clone(at)}
	for i, k := range x.Kids {
		if k.Op != 0 {
			l = append(l, paths(k, append(slices.Clip(at), i))...)
		}
	}
	return l
}

// TestAll: P11.1 and P11.2: reports of methods by chance are those of the slow way, which goes all ways one by one.
func TestAll(t *testing.T) {
	codes := map[api.Errno]int{}
	for seed := range uint64(30000) {
		m := samples.New(seed)
		b := made(m, 2+m.Below(4))
		e := entity(1+m.Below(3), m.Below(3) == 0, b, []string{"a", "b"}[:m.Below(3)]...)
		r, wrong := Check(e, 1, calls(b, nil))
		want, s := report(e.Methods[1])
		if wrong != api.OK || show(r) != show(want) {
			t.Fatalf("seed %d: %v: %s, error %d, want %s", seed, b, show(r), wrong, show(want))
		}
		for _, f := range r.Faults {
			codes[f.Code]++
		}
		if e.Methods[1].Kind == api.Fun && e.Methods[1].Partial && len(calls(b, nil)) == 0 {
			valued(t, b, e.Methods[1], s)
		}
	}
	for code := ErrUnset; code <= ErrDead; code++ {
		if codes[code] < 100 {
			t.Errorf("the fault %d was told only %d times", code, codes[code])
		}
	}
}

// valued checks Valued at all nodes.
func valued(t *testing.T, b api.Expr, m api.Method, s *slow) {
	t.Helper()
	var set []string
	for _, p := range m.Params {
		set = append(set, p.Name)
	}
	for _, path := range paths(b, nil) {
		l, e := Valued(b, set, path)
		ahead := s.ahead[pathText(path)]
		if len(ahead) == 0 {
			if e != ErrDead {
				t.Fatalf("%v at %v: %v, error %d", b, path, l, e)
			}
			continue
		}
		var want []string
		for _, name := range s.slots {
			if !strings.HasPrefix(name, ".") && !s.any(ahead, s.bit(name, false)) {
				want = append(want, name)
			}
		}
		slices.Sort(want)
		if e != api.OK || !slices.Equal(l, want) {
			t.Fatalf("%v at %v: %v, error %d, want %v", b, path, l, e, want)
		}
	}
}

// renamed returns an expression with other names for its locals.
func renamed(x api.Expr, names map[string]string) api.Expr {
	switch x.Op {
	case api.OpLocal, api.OpConsume, api.OpAssign, api.OpVar, api.OpLet, api.OpCase:
		if n, ok := names[x.Text]; ok {
			x.Text = n
		}
	}
	x.Kids = slices.Clone(x.Kids)
	for i := range x.Kids {
		x.Kids[i] = renamed(x.Kids[i], names)
	}
	return x
}

func texts(r Report, with func(f Fault) bool) []string {
	var l []string
	for _, f := range r.Faults {
		if with(f) {
			l = append(l, pathText(f.Path)+f.Code.Error())
		}
	}
	return l
}

// TestLaws: P11.3 to P11.5.
func TestLaws(t *testing.T) {
	every := func(Fault) bool { return true }
	unset := func(f Fault) bool { return f.Code == ErrUnset }
	within := func(what string, b api.Expr, small, large []string) {
		t.Helper()
		for _, s := range small {
			if !slices.Contains(large, s) {
				t.Fatalf("%s of %v: %s is new", what, b, s)
			}
		}
	}
	for seed := range uint64(8000) {
		m := samples.New(seed)
		b := made(m, 2+m.Below(4))
		kind := 1 + m.Below(3)
		e := entity(kind, false, b, "a")
		r, _ := Check(e, 1, calls(b, nil))
		more, _ := Check(entity(kind, false, b, "a", "z"), 1, calls(b, nil))
		within("a parameter more", b, texts(more, unset), texts(r, unset))
		if declared, _ := Locals(b); !slices.Contains(declared, "b") {
			more, _ := Check(entity(kind, false, b, "a", "b"), 1, calls(b, nil))
			within("a parameter more", b, texts(more, unset), texts(r, unset))
		}
		names := map[string]string{"a": "n1", "b": "", "x": "this", "y": "x"}
		other, _ := Check(entity(kind, false, renamed(b, names), "n1"), 1, calls(b, nil))
		if !slices.ContainsFunc(paths(b, nil), func(p []int) bool { x, _ := At(b, p); return x.Op == api.OpCase && x.Text == "b" }) && show(other) != show(r) {
			t.Fatalf("other names in %v: %s, was %s", b, show(other), show(r))
		}
		one, _ := Check(entity(kind, false, api.Expr{Op: api.OpSeq, Kids: []api.Expr{b}}, "a"), 1, calls(b, []int{0}))
		for i, f := range one.Faults {
			if len(f.Path) > 0 {
				one.Faults[i].Path = f.Path[1:]
			}
		}
		slices.SortFunc(one.Faults, func(a, b Fault) int {
			return cmp.Or(slices.Compare(a.Path, b.Path), cmp.Compare(a.Code, b.Code))
		})
		one.Faults = slices.CompactFunc(one.Faults, func(a, b Fault) bool {
			return reflect.DeepEqual(a, b) || slices.Equal(a.Path, b.Path) && a.Code == b.Code
		})
		if show(one) != show(r) {
			t.Fatalf("a Seq of %v: %s, was %s", b, show(one), show(r))
		}
		loops(t, b, within, every)
	}
}

// loops checks P11.5 for a body.
func loops(t *testing.T, b api.Expr, within func(what string, b api.Expr, small, large []string), every func(Fault) bool) {
	t.Helper()
	none := api.Expr{}
	last := api.Expr{Op: api.OpUnit}
	after := func(x api.Expr) ([]string, api.Errno) {
		return Valued(api.Expr{Op: api.OpSeq, Kids: []api.Expr{x, last}}, []string{"a"}, []int{1})
	}
	hasErrors := slices.ContainsFunc(paths(b, nil), func(p []int) bool { x, _ := At(b, p); return x.Op == api.OpError })
	l, e := after(b)
	if m, f := after(api.Expr{Op: api.OpTry, Kids: []api.Expr{b, none, none}}); !hasErrors && e == api.OK && f == api.OK {
		within("an OpTry", b, l, m)
	}
	once, _ := Check(entity(api.Fun, true, b, "a"), 1, calls(b, nil))
	if len(texts(once, func(f Fault) bool { return f.Code == ErrLoop })) > 0 {
		return
	}
	loop, _ := Check(entity(api.Fun, true, api.Expr{Op: api.OpWhile, Kids: []api.Expr{last, b, none}}, "a"), 1, calls(b, []int{1}))
	inner := func(f Fault) bool { return len(f.Path) > 0 || f.Code != ErrPartial }
	var small []string
	for _, f := range once.Faults {
		if inner(f) {
			small = append(small, pathText(append([]int{1}, f.Path...))+f.Code.Error())
		}
	}
	within("an OpWhile", b, small, texts(loop, every))
}

// TestFewer: P11.3: with fewer partial calls the else of a Try is reached by fewer ways.
func TestFewer(t *testing.T) {
	b := body(t, "(try (seq (call e c) (call e c)) z _)")
	for n, want := range map[int]string{0: "ends", 1: "Unset[1] ends", 2: "Unset[1] ends"} {
		r, _ := Check(entity(api.Fun, false, b, "c"), 1, calls(b, nil)[:n])
		if show(r) != want {
			t.Errorf("%d partial calls: %s, want %s", n, show(r), want)
		}
	}
	for seed := range uint64(4000) {
		m := samples.New(seed)
		b := made(m, 5)
		all := calls(b, nil)
		few := all[:m.Below(len(all)+1)]
		r, _ := Check(entity(api.Fun, true, b, "a"), 1, all)
		s, _ := Check(entity(api.Fun, true, b, "a"), 1, few)
		for _, path := range paths(b, nil) {
			x, _ := At(b, path)
			if x.Op == api.OpTry && len(texts(s, func(f Fault) bool { return f.Code != ErrDead && f.Code != ErrPartial })) > len(texts(r, func(f Fault) bool { return true })) {
				t.Fatalf("%v: fewer partial calls, and more faults: %s, was %s", b, show(s), show(r))
			}
		}
	}
}

// TestDeep: bodies that nest loops, and what is run behind, as deeply as may be end soon.
func TestDeep(t *testing.T) {
	loop, last := body(t, "(consume c)"), body(t, "(consume c)")
	for range 98 {
		loop = api.Expr{Op: api.OpWhile, Kids: []api.Expr{body(t, "1"), loop, body(t, "1")}}
	}
	for range 46 {
		ways := body(t, "(if c (return 1) (if c (error) (if c (break) (if c (continue) 1))))")
		last = api.Expr{Op: api.OpWhile, Kids: []api.Expr{body(t, "c"), {Op: api.OpTry, Kids: []api.Expr{ways, {}, last}}, body(t, "1")}}
	}
	wide := api.Expr{Op: api.OpSeq}
	for i := range 1300 {
		name := strings.Repeat("x", i%50+1) + string(rune('a'+i/50))
		wide.Kids = append(wide.Kids, api.Expr{Op: api.OpVar, Text: name, Kids: []api.Expr{{Op: api.OpCall, Text: "e", Kids: []api.Expr{{Op: api.OpLit}}}}})
	}
	for what, b := range map[string]api.Expr{"loops": loop, "tries": last, "variables": wide} {
		start := time.Now()
		if _, e := Check(entity(api.Fun, true, b, "c"), 1, calls(b, nil)); e != api.OK {
			t.Errorf("%s: error %d", what, e)
		}
		if d := time.Since(start); d > 20*time.Second {
			t.Errorf("%s: %v", what, d)
		}
	}
}
