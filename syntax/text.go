package syntax

import (
	"strings"

	"hackamore/api"
	"hackamore/token"
)

// appendText appends the text of a well-formed tree.
func appendText(out []byte, n api.Node, names []string) []byte {
	out = append(out, '(')
	out = append(out, names[n.Kind]...)
	if n.Text != "" {
		literal, _ := token.Quote(n.Text)
		out = append(out, ' ')
		out = append(out, literal...)
	}
	for _, k := range n.Kids {
		out = append(out, ' ')
		out = appendText(out, k, names)
	}
	return append(out, ')')
}

// malformed is what a reader panics with.
type malformed struct{}

// reader reads the text of a tree.
type reader struct {
	text  string
	at    int
	kinds map[string]int
}

// parse returns the tree that a text has, if it is of the form that appendText writes.
func parse(s string) (n api.Node, ok bool) {
	defer func() {
		if recover() != nil {
			n, ok = api.Node{}, false
		}
	}()
	r := &reader{text: s, kinds: map[string]int{}}
	for i, name := range strings.Fields(kindNames) {
		r.kinds[name] = i
	}
	n = r.node()
	return n, r.at == len(s)
}

// take reads a byte, if it is there.
func (r *reader) take(c byte) bool {
	if r.at < len(r.text) && r.text[r.at] == c {
		r.at++
		return true
	}
	return false
}

func (r *reader) want(c byte) {
	if !r.take(c) {
		panic(malformed{})
	}
}

func (r *reader) node() api.Node {
	r.want('(')
	n := api.Node{Kind: r.kind()}
	for first := true; !r.take(')'); first = false {
		r.want(' ')
		if first && r.take('"') {
			n.Text = r.literal()
		} else {
			n.Kids = append(n.Kids, r.node())
		}
	}
	return n
}

func (r *reader) kind() int {
	start := r.at
	for r.at < len(r.text) && r.text[r.at] >= 'A' && r.text[r.at] <= 'z' {
		r.at++
	}
	kind := r.kinds[r.text[start:r.at]]
	if kind == 0 {
		panic(malformed{})
	}
	return kind
}

// literal reads the rest of a literal behind its first quote: it must be the one that is written.
func (r *reader) literal() string {
	start := r.at
	var out []byte
	for !r.take('"') {
		if r.at == len(r.text) {
			panic(malformed{})
		}
		c := r.text[r.at]
		r.at++
		if c == '\\' {
			c = r.escape()
		}
		out = append(out, c)
	}
	q, e := token.Quote(string(out))
	if len(out) == 0 || e != api.OK || q[1:] != r.text[start:r.at] {
		panic(malformed{})
	}
	return string(out)
}

// escape reads the rest of an escape; that it is one that is written is for literal to see.
func (r *reader) escape() byte {
	for _, x := range [...][2]byte{{'n', '\n'}, {'t', '\t'}, {'r', '\r'}, {'0', 0}, {'"', '"'}, {'\\', '\\'}} {
		if r.take(x[0]) {
			return x[1]
		}
	}
	r.want('x')
	c := byte(0)
	for range 2 {
		if r.at == len(r.text) {
			panic(malformed{})
		}
		c = c<<4 | byte(strings.IndexByte("0123456789ABCDEF", r.text[r.at])&15)
		r.at++
	}
	return c
}
