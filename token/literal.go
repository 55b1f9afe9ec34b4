package token

import (
	"iter"
	"math/bits"
	"strings"
	"unicode/utf8"
)

// digit returns the value of a digit of any base, or 99.
func digit(c byte) int {
	switch {
	case isDigit(c):
		return int(c - '0')
	case c >= 'a' && c <= 'f':
		return int(c-'a') + 10
	case c >= 'A' && c <= 'F':
		return int(c-'A') + 10
	}
	return 99
}

// byteAt returns the byte at a place, or a blank behind the end.
func (s *scanner) byteAt(at int) byte {
	if at < len(s.text) {
		return s.text[at]
	}
	return ' '
}

// digits hands on the digits of a base, and goes past them and each `_` between two of them.
func (s *scanner) digits(base int) iter.Seq[int] {
	return func(yield func(int) bool) {
		for between := false; ; {
			c := s.byteAt(s.at)
			d := digit(c)
			switch {
			case d < base:
				s.at++
				between = true
				if !yield(d) {
					return
				}
			case c == '_' && between && digit(s.byteAt(s.at+1)) < base:
				s.at++
				between = false
			default:
				return
			}
		}
	}
}

// number reads an integer or a float.
func (s *scanner) number() (int, string) {
	start := s.at
	kind, text, ok := Int, "", false
	switch {
	case strings.HasPrefix(s.text[start:], "0x"):
		s.at += 2
		text, ok = s.integer(16)
	case strings.HasPrefix(s.text[start:], "0b"):
		s.at += 2
		text, ok = s.integer(2)
	default:
		kind, text, ok = s.decimal()
	}
	if !ok || inWord(s.byteAt(s.at)) {
		panic(fault{start, ErrNumber})
	}
	return kind, text
}

// integer reads digits of a base; it fails without any, and for a number of more than 128 bits.
func (s *scanner) integer(base int) (string, bool) {
	var n uint128
	some, fits := false, true
	for d := range s.digits(base) {
		some = true
		fits = n.push(base, d) && fits
	}
	return n.decimal(), some && fits
}

// decimal reads an integer or a float that begins with a decimal digit.
func (s *scanner) decimal() (int, string, bool) {
	start := s.at
	text := s.run()
	if isPoint := s.byteAt(s.at) == '.' && isDigit(s.byteAt(s.at+1)); isPoint {
		s.at++
		text += "." + s.run()
	} else if s.byteAt(s.at)|0x20 != 'e' {
		s.at = start
		text, ok := s.integer(10)
		return Int, text, ok
	}
	if s.byteAt(s.at)|0x20 != 'e' {
		return Float, text, true
	}
	s.at++
	text += "e"
	if c := s.byteAt(s.at); c == '+' || c == '-' {
		text += string(c)
		s.at++
	}
	exponent := s.run()
	return Float, text + exponent, exponent != ""
}

// run reads decimal digits.
func (s *scanner) run() string {
	var out []byte
	for d := range s.digits(10) {
		out = append(out, byte('0'+d))
	}
	return string(out)
}

// uint128 is a number of 128 bits.
type uint128 struct{ hi, lo uint64 }

// push appends a digit; it reports whether the number still fits.
func (n *uint128) push(base, digit int) bool {
	over, hi := bits.Mul64(n.hi, uint64(base))
	carry, lo := bits.Mul64(n.lo, uint64(base))
	lo, c := bits.Add64(lo, uint64(digit), 0)
	hi, d := bits.Add64(hi, carry, c)
	n.hi, n.lo = hi, lo
	return over == 0 && d == 0
}

// decimal returns the decimal digits of a number.
func (n uint128) decimal() string {
	var out [40]byte
	at := len(out)
	for {
		hi, rest := n.hi/10, n.hi%10
		lo, last := bits.Div64(rest, n.lo, 10)
		n = uint128{hi, lo}
		at--
		out[at] = byte('0' + last)
		if n == (uint128{}) {
			return string(out[at:])
		}
	}
}

// str reads a string of either kind.
func (s *scanner) str() string {
	start := s.at
	if rest := s.text[start:]; strings.HasPrefix(rest, `"""`) {
		end := strings.Index(rest[3:], `"""`)
		if end < 0 || !utf8.ValidString(rest[3:3+end]) {
			panic(fault{start, ErrString})
		}
		s.at += end + 6
		return rest[3 : 3+end]
	}
	var out []byte
	for s.at++; s.byteAt(s.at) != '"'; {
		out = utf8.AppendRune(out, s.symbolic(start))
	}
	s.at++
	return string(out)
}

// character reads a character between primes: the number of it.
func (s *scanner) character() string {
	start := s.at
	s.at++
	if s.byteAt(s.at) == '\'' {
		panic(fault{start, ErrString})
	}
	r := s.symbolic(start)
	if s.byteAt(s.at) != '\'' {
		panic(fault{start, ErrString})
	}
	s.at++
	if inWord(s.byteAt(s.at)) {
		panic(fault{start, ErrNumber})
	}
	return uint128{0, uint64(r)}.decimal()
}

// symbolic reads a character or an escape of the literal that begins at start.
func (s *scanner) symbolic(start int) rune {
	if s.at >= len(s.text) || s.text[s.at] == '\n' {
		panic(fault{start, ErrString})
	}
	if s.text[s.at] == '\\' {
		return s.escape(start)
	}
	r, size := utf8.DecodeRuneInString(s.text[s.at:])
	if r == utf8.RuneError && size == 1 {
		panic(fault{start, ErrString})
	}
	s.at += size
	return r
}

// escape reads an escape of the literal that begins at start.
func (s *scanner) escape(start int) rune {
	c := s.byteAt(s.at + 1)
	s.at += 2
	switch c {
	case 'n':
		return '\n'
	case 't':
		return '\t'
	case 'r':
		return '\r'
	case '0':
		return 0
	case '\\', '"', '\'':
		return rune(c)
	case 'x':
		return s.coded(start, 2, 127)
	case 'u':
		return s.coded(start, 4, utf8.MaxRune)
	case 'U':
		return s.coded(start, 6, utf8.MaxRune)
	}
	panic(fault{start, ErrString})
}

// coded reads a character by a number of hexadecimal digits.
func (s *scanner) coded(start, count int, most rune) rune {
	r := rune(0)
	for range count {
		d := digit(s.byteAt(s.at))
		if d > 15 {
			panic(fault{start, ErrString})
		}
		r = r<<4 | rune(d)
		s.at++
	}
	if r > most || !utf8.ValidRune(r) {
		panic(fault{start, ErrString})
	}
	return r
}
