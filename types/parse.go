package types

import (
	"strings"

	"hackamore/api"
	"hackamore/cap"
)

// Limits of texts that are read.
const (
	maxSource = 20000
	maxOpen   = 200 // brackets that are open around a type
)

// Parse returns the type with a text.
func Parse(s string) (api.Type, api.Errno) {
	if len(s) > maxSource {
		return api.Type{}, api.ErrSize
	}
	r := &reader{text: s}
	t, ok := r.typ()
	if !ok || r.at < len(s) {
		return api.Type{}, api.ErrForm
	}
	if e := Check(t); e != api.OK {
		return api.Type{}, e
	}
	return t, api.OK
}

// reader reads the text of a type, which must be just as Text writes it.
type reader struct {
	text     string
	at, open int
}

// skip goes behind a text, if this stands here.
func (r *reader) skip(s string) bool {
	if !strings.HasPrefix(r.text[r.at:], s) {
		return false
	}
	r.at += len(s)
	return true
}

// typ reads a type.
func (r *reader) typ() (api.Type, bool) {
	if r.open >= maxOpen {
		return api.Type{}, false
	}
	read := r.named
	switch {
	case r.skip("("):
		read = r.group
	case r.skip("$"):
		read = r.param
	}
	return read()
}

// group reads a union, an intersection, a tuple or an arrow behind its first bracket.
func (r *reader) group() (api.Type, bool) {
	r.open++
	first, ok := r.typ()
	if !ok {
		return first, false
	}
	for _, kind := range [...]int{api.TypeUnion, api.TypeBoth, api.TypeTuple, api.TypeArrow} {
		if !r.skip(separator(kind)) {
			continue
		}
		rest, ok := r.list(separator(kind), ")")
		return api.Type{Kind: kind, Args: append([]api.Type{first}, rest...)}, ok
	}
	return first, false
}

// list reads types with separators between them, and the bracket at the end.
func (r *reader) list(separator, end string) ([]api.Type, bool) {
	var l []api.Type
	for {
		t, ok := r.typ()
		if !ok {
			return nil, false
		}
		l = append(l, t)
		if !r.skip(separator) {
			break
		}
	}
	r.open--
	return l, r.skip(end)
}

// param reads a type parameter behind its sign.
func (r *reader) param() (api.Type, bool) {
	name, quoted, ok := r.name()
	t := api.Type{Kind: api.TypeParam, Name: name}
	r.end(&t)
	return t, ok && (quoted || name != "this")
}

// named reads the name of an entity with its arguments, or the receiver.
func (r *reader) named() (api.Type, bool) {
	name, quoted, ok := r.name()
	t := api.Type{Kind: api.TypeName, Name: name}
	if !quoted && name == "this" {
		t = api.Type{Kind: api.TypeSelf}
	} else if ok && r.skip("[") {
		r.open++
		t.Args, ok = r.list(", ", "]")
	}
	r.end(&t)
	return t, ok
}

// end reads the capability and the mark behind a name, if they are there.
func (r *reader) end(t *api.Type) {
	rest := r.text[r.at:]
	if len(rest) > 0 && rest[0] == ' ' {
		n := 1
		for n < len(rest) && (isLetter(rest[n]) || rest[n] == '#') {
			n++
		}
		if c, e := cap.Parse(rest[1:n]); e == api.OK {
			t.Cap = c
			r.at += n
		}
	}
	switch {
	case r.skip("^"):
		t.Mark = api.Ephemeral
	case r.skip("!"):
		t.Mark = api.Aliased
	}
}

// name reads a name, which has quotes only if it needs them.
func (r *reader) name() (name string, quoted, ok bool) {
	if r.skip(`"`) {
		name, ok = r.quoted()
		return name, true, ok && isQuoted(name)
	}
	from := r.at
	for r.at < len(r.text) && inName(r.text[r.at]) {
		r.at++
	}
	name = r.text[from:r.at]
	return name, false, name != "" && atStart(name[0])
}

// quoted reads the rest of a name between quotes.
func (r *reader) quoted() (string, bool) {
	var name []byte
	for r.at < len(r.text) {
		c := r.text[r.at]
		r.at++
		switch {
		case c == '"':
			return string(name), true
		case c == '\n':
			return "", false
		case c != '\\':
			name = append(name, c)
		case r.skip("n"):
			name = append(name, '\n')
		case r.skip(`"`):
			name = append(name, '"')
		case r.skip(`\`):
			name = append(name, '\\')
		default:
			return "", false
		}
	}
	return "", false
}
