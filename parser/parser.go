// Package parser is layer 3: the grammar. See shared/doc/03-parser.md.
package parser

import (
	"hackamore/api"
	"hackamore/syntax"
	"hackamore/token"
)

// Errors of this layer.
const (
	ErrToken api.Errno = 50 // a token that cannot stand there
	ErrMix   api.Errno = 51 // different operators without brackets
)

// Parse returns the tree of a module, or the place of an error.
func Parse(text string) (api.Node, int, api.Errno) { return read(text, (*parser).module) }

// Expr returns the tree of an expression.
func Expr(text string) (api.Node, int, api.Errno) { return read(text, (*parser).seq) }

// Type returns the tree of a type.
func Type(text string) (api.Node, int, api.Errno) { return read(text, (*parser).inner) }

// fault is what the grammar panics with: the error and its place.
type fault struct {
	at   int
	code api.Errno
}

// parser has the tokens of a text, and the index of the next one.
type parser struct {
	tokens []token.Token
	at     int
	length int
	tables
}

// read returns the tree that a rule of the grammar makes of a whole text.
func read(text string, rule func(p *parser) api.Node) (n api.Node, at int, e api.Errno) {
	tokens, at, e := token.Scan(text)
	if e != api.OK {
		return api.Node{}, at, e
	}
	defer func() {
		if r := recover(); r != nil {
			f, ok := r.(fault)
			if !ok {
				f = fault{code: api.ErrState}
			}
			n, at, e = api.Node{}, f.at, f.code
		}
	}()
	p := &parser{tokens: tokens, length: len(text), tables: newTables()}
	n = rule(p)
	if !p.ended() {
		p.fail(ErrToken)
	}
	if e := syntax.Check(n); e != api.OK {
		return api.Node{}, 0, e
	}
	return n, 0, api.OK
}

// tables are sets of the texts of keywords and symbols.
type tables struct {
	stops     map[string]bool // tokens behind a seq
	terms     map[string]bool // tokens that begin a term
	operators map[string]bool
	caps      map[string]bool
	anyCaps   map[string]bool
}

func newTables() tables {
	caps := set("iso", "trn", "ref", "val", "box", "tag")
	anyCaps := set("iso", "trn", "ref", "val", "box", "tag", "#read", "#send", "#share", "#alias", "#any")
	return tables{
		stops: set(")", "]", "}", ",", "|", "=>", ":", "then", "elseif", "else", "end", "do", "until", "in", "where",
			"new", "fun", "be", "use", "class", "actor", "primitive", "trait", "interface", "type"),
		terms: set("not", "-", "consume", "true", "false", "this", "var", "let", "(", "[", "if", "ifdef", "while",
			"repeat", "for", "with", "match", "try", "recover", "object", "{"),
		operators: set("and", "or", "xor", "is", "isnt", "+", "-", "*", "/", "%", "+?", "-?", "*?", "/?", "%?",
			"<<", ">>", "==", "!=", "<", "<=", ">", ">="),
		caps:    caps,
		anyCaps: anyCaps,
	}
}

func set(words ...string) map[string]bool {
	m := map[string]bool{}
	for _, w := range words {
		m[w] = true
	}
	return m
}

func (p *parser) ended() bool { return p.at == len(p.tokens) }

// next returns the next token; its kind is 0 behind the last one.
func (p *parser) next() token.Token {
	if p.ended() {
		return token.Token{}
	}
	return p.tokens[p.at]
}

// fail panics with an error at the next token; behind the last one the text ends too early.
func (p *parser) fail(code api.Errno) {
	if p.ended() {
		panic(fault{p.length, api.ErrEnd})
	}
	panic(fault{p.next().At, code})
}

// fixed returns the text of the next token, if it is a keyword or a symbol.
func (p *parser) fixed() string {
	if t := p.next(); t.Kind == token.Keyword || t.Kind == token.Symbol {
		return t.Text
	}
	return ""
}

func (p *parser) is(text string) bool { return p.fixed() == text }

// onLine reports whether the next token stands on the line of the one ahead of it.
func (p *parser) onLine() bool { return !p.ended() && !p.next().Line }

// take goes past a keyword or a symbol, if it is the next token.
func (p *parser) take(text string) bool {
	if !p.is(text) {
		return false
	}
	p.at++
	return true
}

// want goes past a keyword or a symbol that must be there.
func (p *parser) want(text string) {
	if !p.take(text) {
		p.fail(ErrToken)
	}
}

// one goes past one of several keywords or symbols that must be there.
func (p *parser) one(texts ...string) string {
	for _, t := range texts {
		if p.take(t) {
			return t
		}
	}
	p.fail(ErrToken)
	return ""
}

// perhaps goes past one of a set of keywords or symbols, and returns a Word of it, or of the empty text.
func (p *parser) perhaps(texts map[string]bool) api.Node {
	text := p.fixed()
	if !texts[text] {
		return word("")
	}
	p.at++
	return word(text)
}

// mark is perhaps of the mark of partial methods.
func (p *parser) mark() api.Node {
	if p.take("?") {
		return word("?")
	}
	return word("")
}

// name goes past an identifier that must be there.
func (p *parser) name() string {
	t := p.next()
	if t.Kind != token.Ident {
		p.fail(ErrToken)
	}
	if !token.IsIdent(t.Text) {
		p.fail(api.ErrForm)
	}
	p.at++
	return t.Text
}

// list reads one or more items with commas between them.
func list[T any](p *parser, item func() T) []T {
	l := []T{item()}
	for p.take(",") {
		l = append(l, item())
	}
	return l
}

// behind reads an item behind a keyword or a symbol, or returns a Nothing.
func (p *parser) behind(text string, item func() api.Node) api.Node {
	if p.take(text) {
		return item()
	}
	return nothing()
}

func node(kind int, text string, kids ...api.Node) api.Node {
	return api.Node{Kind: kind, Text: text, Kids: kids}
}

// joined is node with more kids behind the first ones.
func joined(kind int, text string, more []api.Node, kids ...api.Node) api.Node {
	return api.Node{Kind: kind, Text: text, Kids: append(kids, more...)}
}

func word(text string) api.Node { return api.Node{Kind: syntax.Word, Text: text} }

func nothing() api.Node { return api.Node{Kind: syntax.Nothing} }
