package derive

import (
	"strconv"
	"strings"

	"hackamore/api"
	"hackamore/check"
	"hackamore/types"
	"hackamore/walk"
)

const (
	maxLine = 20000 // bytes of the text of a type
	noType  = "-"
	header  = "body "
)

// Text returns the text of a certificate.
func Text(c check.Certificate) (string, api.Errno) {
	if e := wrongText(c); e != api.OK {
		return "", e
	}
	var w strings.Builder
	for _, b := range c.Bodies {
		w.WriteString(header + strconv.Itoa(b.Entity) + " " + strconv.Itoa(b.Method) + "\n")
		for _, t := range b.Types {
			s := noType
			if !walk.IsZero(t) {
				s, _ = types.Text(t)
			}
			if len(s) > maxLine || w.Len() > MaxText {
				return "", api.ErrSize
			}
			w.WriteString(s + "\n")
		}
	}
	if w.Len() > MaxText {
		return "", api.ErrSize
	}
	return w.String(), api.OK
}

// wrongText returns the first error of a certificate by which it has no text, but for its length.
func wrongText(c check.Certificate) api.Errno {
	for _, b := range c.Bodies {
		if b.Entity < 0 || b.Method < 0 {
			return api.ErrRange
		}
	}
	for _, b := range c.Bodies {
		for _, t := range b.Types {
			if e := wrongType(t); e != api.OK {
				return e
			}
		}
	}
	return api.OK
}

// Parse returns the certificate with a text.
func Parse(s string) (check.Certificate, api.Errno) {
	if len(s) > MaxText {
		return check.Certificate{}, api.ErrSize
	}
	var c check.Certificate
	for line := range strings.Lines(s) {
		line, ended := strings.CutSuffix(line, "\n")
		if !ended || !read(&c, line) {
			return check.Certificate{}, api.ErrForm
		}
	}
	return c, api.OK
}

// read adds what a line says to a certificate; false, if it says nothing.
func read(c *check.Certificate, line string) bool {
	if b, ok := readHeader(line); ok {
		c.Bodies = append(c.Bodies, b)
		return true
	}
	if len(c.Bodies) == 0 {
		return false
	}
	var t api.Type
	if line != noType {
		var e api.Errno
		if t, e = types.Parse(line); e != api.OK {
			return false
		}
	}
	b := &c.Bodies[len(c.Bodies)-1]
	b.Types = append(b.Types, t)
	return true
}

// readHeader reads the line ahead of the types of a body.
func readHeader(line string) (check.Body, bool) {
	rest, ok := strings.CutPrefix(line, header)
	entity, method, both := strings.Cut(rest, " ")
	i, first := readNumber(entity)
	j, second := readNumber(method)
	if !ok || !both || !first || !second {
		return check.Body{}, false
	}
	return check.Body{Entity: i, Method: j}, true
}

// readNumber reads a number that is written as it has to be.
func readNumber(s string) (int, bool) {
	n, e := strconv.Atoi(s)
	return n, e == nil && n >= 0 && strconv.Itoa(n) == s
}

// Weaker returns a certificate in which the type of an expression is another one.
func Weaker(c check.Certificate, body, expr int, t api.Type) (check.Certificate, api.Errno) {
	if body < 0 || body >= len(c.Bodies) || expr < 0 || expr >= len(c.Bodies[body].Types) {
		return check.Certificate{}, api.ErrRange
	}
	if e := wrongType(t); e != api.OK {
		return check.Certificate{}, e
	}
	var r check.Certificate
	for _, b := range c.Bodies {
		r.Bodies = append(r.Bodies, check.Body{Entity: b.Entity, Method: b.Method, Types: walk.Types(b.Types)})
	}
	r.Bodies[body].Types[expr] = walk.Type(t)
	return r, api.OK
}
