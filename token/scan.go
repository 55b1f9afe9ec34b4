package token

import (
	"strings"
	"unicode/utf8"

	"hackamore/api"
)

// fault is what a reader panics with: the error and the place of the token that has it.
type fault struct {
	at   int
	code api.Errno
}

// scanner has a text and the place in it that all its closures share.
type scanner struct {
	text     string
	at       int
	line     bool
	keywords map[string]bool
	tokens   []Token
}

// scan is Scan for texts of any length.
func scan(text string) (l []Token, at int, e api.Errno) {
	defer func() {
		if r := recover(); r != nil {
			f, ok := r.(fault)
			if !ok {
				f = fault{code: api.ErrState}
			}
			l, at, e = nil, f.at, f.code
		}
	}()
	s := &scanner{text: text, line: true, keywords: keywordSet()}
	read := s.readers()
	for s.blanks(); s.at < len(text); s.blanks() {
		start, line := s.at, s.line
		s.line = false
		kind, word := read(text[start])
		s.tokens = append(s.tokens, Token{kind, word, start, line})
	}
	return s.tokens, 0, api.OK
}

// readers returns the closure that reads the token that begins with a byte.
func (s *scanner) readers() func(c byte) (int, string) {
	word := func() (int, string) {
		start := s.at
		s.at = wordEnd(s.text, start)
		if w := s.text[start:s.at]; s.keywords[w] {
			return Keyword, w
		} else {
			return Ident, w
		}
	}
	symbol := func() (int, string) {
		t := s.longest()
		if t == "" {
			panic(fault{s.at, ErrChar})
		}
		s.at += len(t)
		return Symbol, t
	}
	return func(c byte) (int, string) {
		switch {
		case isDigit(c):
			return s.number()
		case inWord(c):
			return word()
		case c == '"':
			return String, s.str()
		case c == '\'':
			return Int, s.character()
		}
		return symbol()
	}
}

// longest returns the longest symbol that stands at the place, or no text.
func (s *scanner) longest() string {
	best := ""
	for _, t := range symbols {
		if len(t) > len(best) && strings.HasPrefix(s.text[s.at:], t) && !s.goesOn(t) {
			best = t
		}
	}
	return best
}

// goesOn reports whether a symbol that ends in a letter is followed by more of a word.
func (s *scanner) goesOn(t string) bool {
	end := s.at + len(t)
	return isLetter(t[len(t)-1]) && end < len(s.text) && inWord(s.text[end])
}

// blanks goes past blanks and comments.
func (s *scanner) blanks() {
	for s.at < len(s.text) {
		rest := s.text[s.at:]
		switch {
		case rest[0] == '\n':
			s.line = true
			s.at++
		case rest[0] == ' ' || rest[0] == '\t' || rest[0] == '\r':
			s.at++
		case strings.HasPrefix(rest, "//"):
			s.lineComment(rest)
		case strings.HasPrefix(rest, "/*"):
			s.blockComment(rest)
		default:
			return
		}
	}
}

func (s *scanner) lineComment(rest string) {
	if end := strings.IndexByte(rest, '\n'); end >= 0 {
		rest = rest[:end]
	}
	if !utf8.ValidString(rest) {
		panic(fault{s.at, ErrComment})
	}
	s.at += len(rest)
}

func (s *scanner) blockComment(rest string) {
	depth, at := 1, 2
	for depth > 0 {
		switch {
		case at >= len(rest):
			panic(fault{s.at, ErrComment})
		case strings.HasPrefix(rest[at:], "/*"):
			depth++
			at += 2
		case strings.HasPrefix(rest[at:], "*/"):
			depth--
			at += 2
		default:
			at++
		}
	}
	if !utf8.ValidString(rest[:at]) {
		panic(fault{s.at, ErrComment})
	}
	if strings.Contains(rest[:at], "\n") {
		s.line = true
	}
	s.at += at
}
