package subtype

import (
	"hackamore/api"
	"hackamore/types"
)

// maxLevels is how deep a derivation may be that is checked.
const maxLevels = 200

// Check returns the error of a derivation.
func Check(p []api.Entity, d Proof) api.Errno {
	if len(p) > api.MaxUnits || !small(d) {
		return api.ErrSize
	}
	return newAsker(p).check(d, nil)
}

// small reports whether a derivation is not too large; it looks at no more of it than may be there.
func small(d Proof) bool {
	count := 0
	var fits func(d Proof, level int) bool
	fits = func(d Proof, level int) bool {
		count++
		if count > 2*MaxSteps || level > maxLevels {
			return false
		}
		for _, k := range d.Kids {
			if !fits(k, level+1) {
				return false
			}
		}
		return true
	}
	return fits(d, 1)
}

// check returns the error of a derivation below others.
func (k *asker) check(d Proof, above *assumption) api.Errno {
	if e := k.checkOne(d, above); e != api.OK {
		return e
	}
	if d.Rule == Structure {
		above = &assumption{pair{d.A, d.B}, above}
	}
	for _, kid := range d.Kids {
		if e := k.check(kid, above); e != api.OK {
			return e
		}
	}
	return api.OK
}

// checkOne returns the error of a derivation itself.
func (k *asker) checkOne(d Proof, above *assumption) api.Errno {
	if e := types.Check(d.A); e != api.OK {
		return e
	}
	if e := types.Check(d.B); e != api.OK {
		return e
	}
	if d.Rule < Super || d.Rule > Param || d.N < 0 {
		return api.ErrArg
	}
	counted := d.Rule == Super || d.Rule == UnionOne || d.Rule == BothOne
	if d.N != 0 && !counted {
		return api.ErrArg
	}
	rules := [...]func(k *asker, d Proof) ([]pair, api.Errno){
		Super:     (*asker).super,
		Structure: (*asker).structure,
		Assumed:   (*asker).assumed,
		UnionAll:  (*asker).unionAll,
		BothAll:   (*asker).bothAll,
		UnionOne:  (*asker).unionOne,
		BothOne:   (*asker).bothOne,
		Tuple:     (*asker).tuple,
		Param:     (*asker).param,
	}
	l, e := rules[d.Rule](k, d)
	if e != api.OK {
		return e
	}
	if !d.answers(l) {
		return api.ErrForm
	}
	if d.Rule == Assumed && !above.has(pair{d.A, d.B}) {
		return api.ErrScope
	}
	return api.OK
}

// answers reports whether the derivations below one are those of questions.
func (d Proof) answers(l []pair) bool {
	if len(d.Kids) != len(l) {
		return false
	}
	for i, kid := range d.Kids {
		if !types.Equal(kid.A, l[i].a) || !types.Equal(kid.B, l[i].b) {
			return false
		}
	}
	return true
}

// The following methods return the questions below a derivation by a rule, or its error.

func (k *asker) super(d Proof) ([]pair, api.Errno) {
	q := pair{d.A, d.B}
	if !areNames(q) {
		return nil, api.ErrForm
	}
	for n, s := range supers(k.program, d.A) {
		if n < d.N {
			continue
		}
		switch {
		case !isNamed(s, d.B):
			return nil, api.ErrForm
		case !namesFit(q):
			return nil, api.ErrCap
		}
		return bothWays(s, d.B), api.OK
	}
	return nil, api.ErrForm
}

func (k *asker) structure(d Proof) ([]pair, api.Errno) {
	if _, e := k.assumed(d); e != api.OK {
		return nil, e
	}
	var all []pair
	for _, n := range k.methods(d.B) {
		m, ok := named(k.methods(d.A), n.Name)
		if !ok {
			return nil, api.ErrForm
		}
		l, ok := between(m, n, false)
		if !ok {
			return nil, api.ErrCap
		}
		all = append(all, l...)
	}
	return all, api.OK
}

func (k *asker) assumed(d Proof) ([]pair, api.Errno) {
	q := pair{d.A, d.B}
	switch {
	case !areNames(q) || !isInterface(k.program, d.B):
		return nil, api.ErrForm
	case !namesFit(q):
		return nil, api.ErrCap
	}
	return nil, api.OK
}

func (k *asker) unionAll(d Proof) ([]pair, api.Errno) {
	if d.A.Kind != api.TypeUnion {
		return nil, api.ErrForm
	}
	return partsLeft(pair{d.A, d.B}), api.OK
}

func (k *asker) bothAll(d Proof) ([]pair, api.Errno) {
	if d.B.Kind != api.TypeBoth {
		return nil, api.ErrForm
	}
	return partsRight(pair{d.A, d.B}), api.OK
}

func (k *asker) unionOne(d Proof) ([]pair, api.Errno) {
	if d.B.Kind != api.TypeUnion || d.N >= len(d.B.Args) {
		return nil, api.ErrForm
	}
	return partsRight(pair{d.A, d.B})[d.N : d.N+1], api.OK
}

func (k *asker) bothOne(d Proof) ([]pair, api.Errno) {
	if d.A.Kind != api.TypeBoth || d.N >= len(d.A.Args) {
		return nil, api.ErrForm
	}
	return partsLeft(pair{d.A, d.B})[d.N : d.N+1], api.OK
}

func (k *asker) tuple(d Proof) ([]pair, api.Errno) {
	q := pair{d.A, d.B}
	if !areTuples(q) {
		return nil, api.ErrForm
	}
	return inPlaces(q), api.OK
}

func (k *asker) param(d Proof) ([]pair, api.Errno) {
	q := pair{d.A, d.B}
	switch {
	case !areParams(q):
		return nil, api.ErrForm
	case !paramFits(q):
		return nil, api.ErrCap
	}
	return nil, api.OK
}
