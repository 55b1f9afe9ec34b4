package format

import (
	"strings"

	"hackamore/api"
	"hackamore/syntax"
	"hackamore/token"
)

// Contexts of expressions: what the grammar has where they stand. In each one, less can stand than in the one ahead.
const (
	asBody     = iota // a seq that stands on lines of its own
	asStat            // no Seq
	asAssign          // nor a Return, Break, Continue or Error
	asInfix           // nor an Assign
	asTerm            // nor a Binary or As
	asAtom            // nor a Unary or Consume
	asReceiver        // nor a Decl, whose type would go on
)

// strongest returns the last context in which a kind of expression can stand without brackets.
func strongest(kind int) int {
	switch kind {
	case syntax.Seq:
		return asBody
	case syntax.Return, syntax.Break, syntax.Continue, syntax.Error:
		return asStat
	case syntax.Assign:
		return asAssign
	case syntax.Binary, syntax.As:
		return asInfix
	case syntax.Unary, syntax.Consume:
		return asTerm
	case syntax.Decl:
		return asAtom
	}
	return asReceiver
}

// writer writes parts of a tree at a level.
type writer struct {
	level int
	rules [syntax.Last + 1]func(w *writer, n api.Node) string
}

// rules returns how the kinds of expressions and types are written.
func rules() [syntax.Last + 1]func(w *writer, n api.Node) string {
	return [syntax.Last + 1]func(w *writer, n api.Node) string{
		syntax.NamedType:  (*writer).named,
		syntax.UnionType:  func(w *writer, n api.Node) string { return "(" + w.types(n.Kids, " | ") + ")" },
		syntax.BothType:   func(w *writer, n api.Node) string { return "(" + w.types(n.Kids, " & ") + ")" },
		syntax.TupleType:  func(w *writer, n api.Node) string { return "(" + w.types(n.Kids, ", ") + ")" },
		syntax.ArrowType:  (*writer).arrow,
		syntax.ThisType:   fixed("this"),
		syntax.LambdaType: (*writer).lambdaType,
		syntax.IntLit:     text,
		syntax.FloatLit:   text,
		syntax.StringLit:  func(w *writer, n api.Node) string { return quoted(n.Text) },
		syntax.BoolLit:    text,
		syntax.Name:       text,
		syntax.This:       fixed("this"),
		syntax.Seq:        (*writer).seq,
		syntax.Decl:       func(w *writer, n api.Node) string { return n.Kids[0].Text + " " + n.Text + ": " + w.typ(n.Kids[1]) },
		syntax.Assign:     (*writer).assign,
		syntax.Dot:        selected("."),
		syntax.Tilde:      selected("~"),
		syntax.Chain:      selected(".>"),
		syntax.Call:       (*writer).call,
		syntax.Qualify:    (*writer).qualify,
		syntax.Tuple:      func(w *writer, n api.Node) string { return "(" + w.exprs(n.Kids, asStat, ", ") + ")" },
		syntax.Array:      (*writer).array,
		syntax.Unary:      (*writer).unary,
		syntax.Binary:     (*writer).binary,
		syntax.As:         func(w *writer, n api.Node) string { return w.expr(n.Kids[0], asTerm) + " as " + w.typ(n.Kids[1]) },
		syntax.Consume:    func(w *writer, n api.Node) string { return "consume " + w.expr(n.Kids[0], asTerm) },
		syntax.Recover:    (*writer).recovered,
		syntax.If:         (*writer).branch,
		syntax.Ifdef:      (*writer).ifdef,
		syntax.While:      (*writer).while,
		syntax.Repeat:     (*writer).repeat,
		syntax.For:        (*writer).loop,
		syntax.With:       (*writer).with,
		syntax.Match:      (*writer).match,
		syntax.Try:        (*writer).attempt,
		syntax.Error:      fixed("error"),
		syntax.Return:     func(w *writer, n api.Node) string { return "return" + w.ahead(" ", n.Kids[0], asInfix) },
		syntax.Break:      fixed("break"),
		syntax.Continue:   fixed("continue"),
		syntax.Object:     (*writer).object,
		syntax.Lambda:     (*writer).lambda,
	}
}

func text(w *writer, n api.Node) string { return n.Text }

func fixed(s string) func(w *writer, n api.Node) string {
	return func(w *writer, n api.Node) string { return s }
}

// selected returns how a name behind a receiver and a sign is written.
func selected(sign string) func(w *writer, n api.Node) string {
	context := asAtom
	if sign == "." {
		context = asReceiver
	}
	return func(w *writer, n api.Node) string { return w.expr(n.Kids[0], context) + sign + n.Text }
}

func quoted(s string) string {
	q, _ := token.Quote(s)
	return q
}

// lines joins lines at the level of the writer; each one ends with a line feed.
func (w *writer) lines(l ...string) string {
	indent := strings.Repeat("  ", w.level)
	out := ""
	for _, s := range l {
		out += indent + s + "\n"
	}
	return out
}

// more returns what a function writes with one more level.
func (w *writer) more(write func() string) string {
	w.level++
	defer func() { w.level-- }()
	return write()
}

// last returns a last line, without a line feed, since the rest of the line stands behind it.
func (w *writer) last(s string) string { return strings.Repeat("  ", w.level) + s }

// stats writes a body at the level of the writer.
func (w *writer) stats(n api.Node) string {
	if n.Kind != syntax.Seq {
		return w.lines(w.expr(n, asStat))
	}
	out := ""
	for _, k := range n.Kids {
		out += w.lines(w.expr(k, asStat))
	}
	return out
}

// block writes the rest of a line, and a body with one more level.
func (w *writer) block(head string, body api.Node) string {
	return head + "\n" + w.more(func() string { return w.stats(body) })
}

// part writes a line and a body, if there is one.
func (w *writer) part(head string, body api.Node) string {
	if body.Kind == syntax.Nothing {
		return ""
	}
	return w.block(w.last(head), body)
}

// expr writes an expression in a context.
func (w *writer) expr(n api.Node, context int) string {
	s := w.rules[n.Kind](w, n)
	if context > strongest(n.Kind) {
		return "(" + s + ")"
	}
	return s
}

func (w *writer) exprs(l []api.Node, context int, between string) string {
	var out []string
	for _, n := range l {
		out = append(out, w.expr(n, context))
	}
	return strings.Join(out, between)
}

// ahead writes a text and an expression, or nothing for a Nothing.
func (w *writer) ahead(s string, n api.Node, context int) string {
	if n.Kind == syntax.Nothing {
		return ""
	}
	return s + w.expr(n, context)
}

func (w *writer) typ(n api.Node) string { return w.rules[n.Kind](w, n) }

func (w *writer) types(l []api.Node, between string) string {
	var out []string
	for _, n := range l {
		out = append(out, w.typ(n))
	}
	return strings.Join(out, between)
}

// typeAhead writes a text and a type, or nothing for a Nothing.
func (w *writer) typeAhead(s string, n api.Node) string {
	if n.Kind == syntax.Nothing {
		return ""
	}
	return s + w.typ(n)
}

// spaced returns a word with a space ahead of it, or no text.
func spaced(word api.Node) string {
	if word.Text == "" {
		return ""
	}
	return " " + word.Text
}

// between returns a text in brackets, or no text if it is empty.
func between(open, s, end string) string {
	if s == "" {
		return ""
	}
	return open + s + end
}

// each joins what a function writes of nodes.
func each(l []api.Node, separator string, write func(n api.Node) string) string {
	var out []string
	for _, n := range l {
		out = append(out, write(n))
	}
	return strings.Join(out, separator)
}
