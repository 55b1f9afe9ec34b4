package samples

import (
	"maps"
	"slices"

	"hackamore/api"
)

// CoreType returns a well-formed type of entities with these names, each of which has as many arguments as a number says,
// and with type parameters of some names.
func (m *Maker) CoreType(depth int, entities map[string]int, params ...string) api.Type {
	kind := m.Below(12)
	switch {
	case depth <= 1 && kind >= 6 || kind < 4 || kind < 6 && len(params) == 0:
		return m.named(depth, entities, params)
	case kind < 6:
		return api.Type{Kind: api.TypeParam, Name: m.One(params...), Cap: m.Below(14) % 7 * m.Below(2), Mark: m.Mark()}
	case kind == 6:
		return api.Type{Kind: api.TypeSelf, Cap: m.Below(7), Mark: m.Mark()}
	case kind == 7:
		left := api.Type{Kind: api.TypeSelf, Cap: m.Below(7), Mark: m.Mark()}
		if len(params) > 0 && m.Below(2) == 0 {
			left.Kind, left.Name = api.TypeParam, m.One(params...)
		}
		return api.Type{Kind: api.TypeArrow, Args: []api.Type{left, m.CoreType(depth-1, entities, params...)}}
	}
	t := api.Type{Kind: api.TypeUnion + m.Below(3)}
	for range 2 + m.Below(2) {
		t.Args = append(t.Args, m.CoreType(depth-1, entities, params...))
	}
	return t
}

// Mark returns a mark: mostly none.
func (m *Maker) Mark() int { return max(0, m.Below(5)-2) }

// named returns a type of an entity; where no arguments may stand any more, one of an entity without.
func (m *Maker) named(depth int, entities map[string]int, params []string) api.Type {
	t := api.Type{Kind: api.TypeName, Name: m.pick(entities, depth > 1), Cap: 1 + m.Below(6), Mark: m.Mark()}
	for range entities[t.Name] {
		t.Args = append(t.Args, m.CoreType(depth-1, entities, params...))
	}
	return t
}

// pick returns one of the names of entities; those that have arguments only if they may be.
func (m *Maker) pick(entities map[string]int, all bool) string {
	l := slices.Sorted(maps.Keys(entities))
	return m.One(slices.DeleteFunc(l, func(name string) bool { return !all && entities[name] > 0 })...)
}
