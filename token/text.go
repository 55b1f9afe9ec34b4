package token

import "unicode/utf8"

// possible reports whether a scanner can return a token with this kind and text.
func possible(t Token) bool {
	switch t.Kind {
	case Ident, Keyword, Int, Float, Symbol:
		l, _, _ := scan(t.Text)
		return len(l) == 1 && l[0].Kind == t.Kind && l[0].Text == t.Text
	case String:
		return utf8.ValidString(t.Text)
	}
	return false
}

// written returns how a token is written.
func written(t Token) string {
	if t.Kind == String {
		return quoted(t.Text)
	}
	return t.Text
}

// quoted returns the literal of a string of valid UTF-8.
func quoted(s string) string {
	const hex = "0123456789ABCDEF"
	out := []byte{'"'}
	for i := range len(s) {
		switch c := s[i]; c {
		case '\n':
			out = append(out, `\n`...)
		case '\t':
			out = append(out, `\t`...)
		case '\r':
			out = append(out, `\r`...)
		case 0:
			out = append(out, `\0`...)
		case '"', '\\':
			out = append(out, '\\', c)
		default:
			if c < ' ' || c == 127 {
				out = append(out, '\\', 'x', hex[c>>4], hex[c&15])
			} else {
				out = append(out, c)
			}
		}
	}
	return string(append(out, '"'))
}
