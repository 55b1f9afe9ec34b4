package format

import (
	"strings"

	"hackamore/api"
	"hackamore/syntax"
)

// seq writes a Seq that stands between brackets.
func (w *writer) seq(n api.Node) string { return w.exprs(n.Kids, asStat, "; ") }

func (w *writer) assign(n api.Node) string {
	return w.expr(n.Kids[0], asInfix) + " = " + w.expr(n.Kids[1], asAssign)
}

func (w *writer) call(n api.Node) string {
	var args, names []string
	for _, k := range n.Kids[2:] {
		if k.Kind == syntax.Named {
			names = append(names, k.Text+" = "+w.expr(k.Kids[0], asInfix))
		} else {
			args = append(args, w.expr(k, asAssign))
		}
	}
	inner := strings.Join(args, ", ")
	if len(args) > 0 && len(names) > 0 {
		inner += " "
	}
	if len(names) > 0 {
		inner += "where " + strings.Join(names, ", ")
	}
	return w.expr(n.Kids[0], asAtom) + "(" + inner + ")" + n.Kids[1].Text
}

func (w *writer) qualify(n api.Node) string {
	return w.expr(n.Kids[0], asReceiver) + "[" + w.types(n.Kids[1:], ", ") + "]"
}

func (w *writer) array(n api.Node) string {
	return "[as " + w.typ(n.Kids[0]) + ":" + between(" ", w.exprs(n.Kids[1:], asStat, "; "), "") + "]"
}

func (w *writer) unary(n api.Node) string {
	sign := n.Text
	if sign == "not" {
		sign = "not "
	}
	return sign + w.expr(n.Kids[0], asTerm)
}

func (w *writer) binary(n api.Node) string {
	context := asTerm
	if left := n.Kids[0]; left.Kind == syntax.Binary && left.Text == n.Text {
		context = asInfix
	}
	return w.expr(n.Kids[0], context) + " " + n.Text + " " + w.expr(n.Kids[1], asTerm)
}

func (w *writer) recovered(n api.Node) string {
	return w.block("recover"+spaced(n.Kids[0]), n.Kids[1]) + w.last("end")
}

// branch writes an if; an if in the place of its else goes on with elseif.
func (w *writer) branch(n api.Node) string {
	out, word := "", "if "
	for n.Kind == syntax.If {
		out += w.block(word+w.expr(n.Kids[0], asStat)+" then", n.Kids[1])
		n, word = n.Kids[2], w.last("elseif ")
	}
	return out + w.part("else", n) + w.last("end")
}

func (w *writer) ifdef(n api.Node) string {
	return w.block("ifdef "+w.expr(n.Kids[0], asInfix)+" then", n.Kids[1]) + w.part("else", n.Kids[2]) + w.last("end")
}

func (w *writer) while(n api.Node) string {
	return w.block("while "+w.expr(n.Kids[0], asStat)+" do", n.Kids[1]) + w.part("else", n.Kids[2]) + w.last("end")
}

func (w *writer) repeat(n api.Node) string {
	return w.block("repeat", n.Kids[0]) + w.lines("until "+w.expr(n.Kids[1], asStat)) + w.last("end")
}

func (w *writer) loop(n api.Node) string {
	head := "for " + n.Text + ": " + w.typ(n.Kids[0]) + " in " + w.expr(n.Kids[1], asStat) + " do"
	return w.block(head, n.Kids[2]) + w.part("else", n.Kids[3]) + w.last("end")
}

func (w *writer) with(n api.Node) string {
	return w.block("with "+w.typed(n.Text, n.Kids[0], n.Kids[1])+" do", n.Kids[2]) + w.last("end")
}

func (w *writer) match(n api.Node) string {
	out := "match " + w.expr(n.Kids[0], asStat) + "\n"
	for _, c := range n.Kids[2:] {
		head := "| " + w.expr(c.Kids[0], asInfix) + w.ahead(" if ", c.Kids[1], asInfix) + " =>"
		out += w.part(head, c.Kids[2])
	}
	return out + w.part("else", n.Kids[1]) + w.last("end")
}

func (w *writer) attempt(n api.Node) string {
	return w.block("try", n.Kids[0]) + w.part("else", n.Kids[1]) + w.part("then", n.Kids[2]) + w.last("end")
}

func (w *writer) object(n api.Node) string {
	head := "object" + spaced(n.Kids[0]) + w.typeAhead(" is ", n.Kids[1]) + "\n"
	return head + w.members(n.Kids[2:]) + w.last("end")
}

func (w *writer) lambda(n api.Node) string {
	capture := func(c api.Node) string { return w.typed(c.Text, c.Kids[0], c.Kids[1]) }
	head := "{" + w.params(n.Kids[1]) + between("(", each(n.Kids[5:], ", ", capture), ")") +
		w.typeAhead(": ", n.Kids[2]) + spaced(n.Kids[3]) + " =>"
	body := w.more(func() string { return w.stats(n.Kids[4]) })
	if n.Kids[4].Kind != syntax.Seq && strings.Count(body, "\n") == 1 {
		return head + " " + strings.TrimSpace(body) + " }" + spaced(n.Kids[0])
	}
	return head + "\n" + body + w.last("}") + spaced(n.Kids[0])
}
