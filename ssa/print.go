package ssa

import (
	"strconv"
	"strings"
	"unicode/utf8"

	"hackamore/api"
	"hackamore/walk"
)

// Limits of texts.
const (
	maxBytes  = 1000000
	maxParts  = 100 // of a type
	maxDepth  = 20  // of a type, and of a value that is read
	maxKind   = 99
	maxNumber = 1000000000
)

// Print returns the text of functions.
func Print(l []Func) (string, api.Errno) {
	if len(l) > maxFuncs {
		return "", api.ErrSize
	}
	for i := range l {
		if _, e := shape(&l[i]); e != api.OK {
			return "", e
		}
		if !l[i].hasWords() {
			return "", api.ErrForm
		}
	}
	w := &writer{}
	for i := range l {
		w.function(&l[i])
		if w.Len() > maxBytes {
			return "", api.ErrLarge
		}
	}
	return w.String(), api.OK
}

// hasWords reports whether all types and Lits of a function can be written.
func (f *Func) hasWords() bool {
	if !isWritten(f.Result) {
		return false
	}
	for _, t := range f.Params {
		if !isWritten(t) {
			return false
		}
	}
	for _, x := range f.all() {
		if !isWritten(x.Type) || !isWrittenValue(x.Lit) {
			return false
		}
	}
	return true
}

func isWritten(t api.Type) bool {
	parts := 0
	var fits func(t api.Type, depth int) bool
	fits = func(t api.Type, depth int) bool {
		parts++
		if parts > maxParts || depth > maxDepth || !isShort(t.Kind) || !isShort(t.Cap) || !isShort(t.Mark) {
			return false
		}
		if len(t.Name) > maxName || !utf8.ValidString(t.Name) {
			return false
		}
		for _, a := range t.Args {
			if !fits(a, depth+1) {
				return false
			}
		}
		return true
	}
	return fits(t, 1)
}

func isShort(n int) bool { return n >= 0 && n <= maxKind }

func isWrittenValue(v api.Value) bool {
	for _, k := range v.Kids {
		if !isWrittenValue(k) {
			return false
		}
	}
	return isShort(v.Kind)
}

// writer writes functions; behind a text that is too long it writes no more.
type writer struct{ strings.Builder }

// line writes words, with a space between them.
func (w *writer) line(words ...string) {
	if w.Len() <= maxBytes {
		w.WriteString(strings.Join(words, " "))
		w.WriteByte('\n')
	}
}

func (w *writer) function(f *Func) {
	words := []string{"func", nameWord(f.Name), typeWord(f.Result), bitWord(f.Partial)}
	for _, t := range f.Params {
		words = append(words, typeWord(t))
	}
	w.line(words...)
	for i := range f.Blocks {
		b := &f.Blocks[i]
		w.line("block")
		for j := range b.Ins {
			if w.Len() > maxBytes {
				return
			}
			w.line(insWords(&b.Ins[j])...)
		}
		end := []string{endings[b.End.Kind].name, listWord(b.End.Args), listWord(b.End.To)}
		if b.End.Kind == Try {
			end = append(end, insWords(&b.End.Call)...)
		}
		w.line(end...)
	}
}

func insWords(x *Ins) []string {
	return []string{
		operations[x.Op].name, strconv.Itoa(x.Result), typeWord(x.Type), listWord(x.Args), nameWord(x.Text), nameWord(x.Name),
		valueWord(x.Lit), strconv.Itoa(x.N), bitWord(x.Flag),
	}
}

func bitWord(b bool) string {
	if b {
		return "1"
	}
	return "0"
}

func listWord(l []int) string {
	if len(l) == 0 {
		return "-"
	}
	words := make([]string, len(l))
	for i, n := range l {
		words[i] = strconv.Itoa(n)
	}
	return strings.Join(words, ",")
}

// isBare reports whether a byte is written as it is.
func isBare(c byte) bool {
	return c >= 'a' && c <= 'z' || c >= 'A' && c <= 'Z' || c >= '0' && c <= '9' || c == '.' || c == '_'
}

const digits = "0123456789abcdef"

func nameWord(s string) string {
	b := []byte{'x'}
	for i := range len(s) {
		if c := s[i]; isBare(c) {
			b = append(b, c)
		} else {
			b = append(b, '~', digits[c>>4], digits[c&15])
		}
	}
	return string(b)
}

func typeWord(t api.Type) string {
	if walk.IsZero(t) {
		return "0:x:0:0"
	}
	args := make([]string, len(t.Args))
	for i, a := range t.Args {
		args[i] = typeWord(a)
	}
	return strconv.Itoa(t.Kind) + ":" + nameWord(t.Name) + ":" + strconv.Itoa(t.Cap) + ":" + strconv.Itoa(t.Mark) + inBrackets(args)
}

func valueWord(v api.Value) string {
	kids := make([]string, len(v.Kids))
	for i, k := range v.Kids {
		kids[i] = valueWord(k)
	}
	return strconv.Itoa(v.Kind) + ":" + strconv.FormatUint(v.Lo, 10) + ":" + strconv.FormatUint(v.Hi, 10) + ":" + nameWord(v.Name) + inBrackets(kids)
}

// inBrackets returns what stands behind a type, or a value, with such parts.
func inBrackets(parts []string) string {
	if len(parts) == 0 {
		return ""
	}
	return "(" + strings.Join(parts, ",") + ")"
}
