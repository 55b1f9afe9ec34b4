// Package token is layer 1: the tokens of a module's text. See shared/doc/01-token.md.
package token

import (
	"unicode/utf8"

	"hackamore/api"
)

// Errors of this layer.
const (
	ErrChar    api.Errno = 30 // a byte that begins no token
	ErrString  api.Errno = 31 // a string or a character that is not closed, or has a wrong escape
	ErrComment api.Errno = 32 // a comment that is not closed
	ErrNumber  api.Errno = 33 // a number that has not the form, or is too large
)

// Kinds of tokens.
const (
	Ident   = 1
	Keyword = 2
	Int     = 3
	Float   = 4
	String  = 5
	Symbol  = 6
)

// Token is a token: its kind, its text, where it begins, and whether it is the first one of its line.
type Token struct {
	Kind int
	Text string
	At   int
	Line bool
}

// Scan returns the tokens of a text, or the place of an error.
func Scan(text string) ([]Token, int, api.Errno) {
	if len(text) > api.MaxSource {
		return nil, 0, api.ErrLarge
	}
	return scan(text)
}

// Text returns a text with given tokens.
func Text(l []Token) (string, api.Errno) {
	var out []byte
	for i, t := range l {
		if !possible(t) || i == 0 && !t.Line {
			return "", api.ErrForm
		}
		switch {
		case i == 0:
		case t.Line:
			out = append(out, '\n')
		default:
			out = append(out, ' ')
		}
		out = append(out, written(t)...)
		if len(out) > api.MaxSource {
			return "", api.ErrLarge
		}
	}
	return string(out), api.OK
}

// Keywords returns all keywords.
func Keywords() []string {
	var l []string
	for _, s := range keywords {
		l = append(l, s)
	}
	return l
}

// Symbols returns all symbols, longer ones first.
func Symbols() []string {
	var l []string
	for _, s := range symbols {
		l = append(l, s)
	}
	return l
}

// IsIdent reports whether a text is an identifier.
func IsIdent(s string) bool {
	return len(s) <= api.MaxName && isWord(s) && !isKeyword(s)
}

// Quote returns the literal of a string.
func Quote(s string) (string, api.Errno) {
	if !utf8.ValidString(s) {
		return "", api.ErrForm
	}
	return quoted(s), api.OK
}
