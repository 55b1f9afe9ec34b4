package types

import (
	"strings"

	"hackamore/api"
	"hackamore/cap"
)

// separator returns what stands between the Args of a type of a kind.
func separator(kind int) string {
	switch kind {
	case api.TypeUnion:
		return " | "
	case api.TypeBoth:
		return " & "
	case api.TypeArrow:
		return " -> "
	}
	return ", "
}

// Text returns the text of a type.
func Text(t api.Type) (string, api.Errno) {
	if e := Check(t); e != api.OK {
		return "", e
	}
	return text(t), api.OK
}

// text returns the text of a type that may be too large.
func text(t api.Type) string {
	var w strings.Builder
	write(&w, t)
	return w.String()
}

func write(w *strings.Builder, t api.Type) {
	switch t.Kind {
	case api.TypeName:
		writeName(w, t.Name)
		if len(t.Args) > 0 {
			writeList(w, "[", t, "]")
		}
	case api.TypeParam:
		w.WriteString("$")
		writeName(w, t.Name)
	case api.TypeSelf:
		w.WriteString("this")
	default:
		writeList(w, "(", t, ")")
		return
	}
	if t.Cap != api.CapNone {
		w.WriteString(" " + cap.Name(t.Cap))
	}
	switch t.Mark {
	case api.Ephemeral:
		w.WriteString("^")
	case api.Aliased:
		w.WriteString("!")
	}
}

func writeList(w *strings.Builder, open string, t api.Type, end string) {
	w.WriteString(open)
	for i, a := range t.Args {
		if i > 0 {
			w.WriteString(separator(t.Kind))
		}
		write(w, a)
	}
	w.WriteString(end)
}

func isLetter(c byte) bool { return c >= 'a' && c <= 'z' || c >= 'A' && c <= 'Z' }

// inName reports whether a byte may stand in a name without quotes.
func inName(c byte) bool {
	return isLetter(c) || c >= '0' && c <= '9' || c == '_' || c == '.' || c == '\''
}

// atStart reports whether a byte may be the first one of a name without quotes.
func atStart(c byte) bool { return isLetter(c) || c == '_' }

// isQuoted reports whether a name is written between quotes.
func isQuoted(name string) bool {
	for i := range len(name) {
		if !inName(name[i]) || i == 0 && !atStart(name[i]) {
			return true
		}
	}
	return name == "this"
}

func writeName(w *strings.Builder, name string) {
	if !isQuoted(name) {
		w.WriteString(name)
		return
	}
	w.WriteByte('"')
	for i := range len(name) {
		switch c := name[i]; c {
		case '\n':
			w.WriteString("\\n")
		case '"', '\\':
			w.WriteByte('\\')
			w.WriteByte(c)
		default:
			w.WriteByte(c)
		}
	}
	w.WriteByte('"')
}
