package ssa

import (
	"iter"
	"slices"
	"strconv"
	"strings"

	"hackamore/api"
)

// Parse returns the functions with a text, or the number of a line and its error.
func Parse(s string) ([]Func, int, api.Errno) {
	if len(s) > maxBytes {
		return nil, 0, api.ErrSize
	}
	r := &reader{}
	n := 1
	for line, ok := range lines(s) {
		if !ok || !r.line(strings.Split(line, " ")) {
			return nil, n, ErrLine
		}
		n++
	}
	if !r.isWhole() {
		return nil, n, ErrLine
	}
	if _, e := Print(r.list); e != api.OK {
		return nil, 0, e
	}
	return r.list, 0, api.OK
}

// lines hands on the lines of a text, and whether they end.
func lines(s string) iter.Seq2[string, bool] {
	return func(yield func(string, bool) bool) {
		for s != "" {
			line, rest, ends := strings.Cut(s, "\n")
			if !yield(line, ends) {
				return
			}
			s = rest
		}
	}
}

// reader reads functions, line by line.
type reader struct {
	list []Func
	open bool // the last block has no end
}

// isWhole reports whether the last function has a block, and the last block an end.
func (r *reader) isWhole() bool {
	return len(r.list) == 0 || !r.open && len(r.list[len(r.list)-1].Blocks) > 0
}

// line reads a line; false, if it has not the form, or may not stand there.
func (r *reader) line(words []string) bool {
	switch words[0] {
	case "func":
		return r.isWhole() && r.function(words)
	case "block":
		if r.open || len(r.list) == 0 || len(words) != 1 {
			return false
		}
		f := &r.list[len(r.list)-1]
		f.Blocks = append(f.Blocks, Block{})
		r.open = true
		return true
	}
	if !r.open {
		return false
	}
	f := &r.list[len(r.list)-1]
	b := &f.Blocks[len(f.Blocks)-1]
	if x, ok := readIns(words); ok {
		b.Ins = append(b.Ins, x)
		return true
	}
	end, ok := readEnd(words)
	b.End, r.open = end, false
	return ok
}

func (r *reader) function(words []string) bool {
	if len(words) < 4 {
		return false
	}
	s := &scanner{}
	f := Func{Name: s.name(words[1]), Result: s.typ(words[2]), Partial: s.bit(words[3])}
	for _, w := range words[4:] {
		f.Params = append(f.Params, s.typ(w))
	}
	r.list = append(r.list, f)
	return !s.bad
}

func readIns(words []string) (Ins, bool) {
	op := slices.IndexFunc(operations[1:], func(o operation) bool { return o.name == words[0] }) + 1
	if op == 0 || len(words) != 9 {
		return Ins{}, false
	}
	s := &scanner{}
	x := Ins{
		Op: op, Result: s.count(words[1]), Type: s.typ(words[2]), Args: s.list(words[3]), Text: s.name(words[4]),
		Name: s.name(words[5]), Lit: s.value(words[6]), N: s.count(words[7]), Flag: s.bit(words[8]),
	}
	return x, !s.bad
}

func readEnd(words []string) (End, bool) {
	kind := slices.IndexFunc(endings[1:], func(k ending) bool { return k.name == words[0] }) + 1
	if kind == 0 || len(words) < 3 {
		return End{}, false
	}
	s := &scanner{}
	end := End{Kind: kind, Args: s.list(words[1]), To: s.list(words[2])}
	if kind != Try {
		return end, !s.bad && len(words) == 3
	}
	var ok bool
	if len(words) > 3 {
		end.Call, ok = readIns(words[3:])
	}
	return end, ok && !s.bad
}

// scanner reads words. It is bad behind one that has not the form.
type scanner struct {
	rest string
	bad  bool
}

func (s *scanner) fail() { s.bad = true }

// whole reads a word by a part of it, which must be all.
func whole[T any](s *scanner, word string, part func(s *scanner) T) T {
	s.rest = word
	x := part(s)
	if s.rest != "" {
		s.fail()
	}
	return x
}

func (s *scanner) name(word string) string     { return whole(s, word, (*scanner).text) }
func (s *scanner) count(word string) int       { return whole(s, word, (*scanner).number) }
func (s *scanner) typ(word string) api.Type    { return whole(s, word, (*scanner).typePart) }
func (s *scanner) value(word string) api.Value { return whole(s, word, (*scanner).valuePart) }

func (s *scanner) bit(word string) bool {
	if word != "0" && word != "1" {
		s.fail()
	}
	return word == "1"
}

func (s *scanner) list(word string) []int {
	if word == "-" {
		return nil
	}
	var l []int
	for w := range strings.SplitSeq(word, ",") {
		l = append(l, s.count(w))
	}
	return l
}

// eat takes a byte from the beginning of the rest, if it stands there.
func (s *scanner) eat(c byte) bool {
	if s.rest == "" || s.rest[0] != c {
		return false
	}
	s.rest = s.rest[1:]
	return true
}

// must takes a byte that has to stand at the beginning of the rest.
func (s *scanner) must(c byte) {
	if !s.eat(c) {
		s.fail()
	}
}

// while takes the bytes from the beginning of the rest that are of some kind.
func (s *scanner) while(is func(c byte) bool) string {
	n := 0
	for n < len(s.rest) && is(s.rest[n]) {
		n++
	}
	word := s.rest[:n]
	s.rest = s.rest[n:]
	return word
}

func isDigit(c byte) bool { return c >= '0' && c <= '9' }

// bits reads a number of up to 64 bits.
func (s *scanner) bits() uint64 {
	word := s.while(isDigit)
	n, err := strconv.ParseUint(word, 10, 64)
	if err != nil || len(word) > 1 && word[0] == '0' {
		s.fail()
		return 0
	}
	return n
}

func (s *scanner) number() int {
	n := s.bits()
	if n > maxNumber {
		s.fail()
		return 0
	}
	return int(n)
}

// text reads a text as a word.
func (s *scanner) text() string {
	s.must('x')
	word := s.while(func(c byte) bool { return isBare(c) || c == '~' })
	var b []byte
	for i := 0; i < len(word); i++ {
		c := word[i]
		if c != '~' {
			b = append(b, c)
			continue
		}
		if i+2 >= len(word) {
			s.fail()
			break
		}
		high, low := strings.IndexByte(digits, word[i+1]), strings.IndexByte(digits, word[i+2])
		if high < 0 || low < 0 || isBare(byte(high<<4|low)) {
			s.fail()
			break
		}
		b = append(b, byte(high<<4|low))
		i += 2
	}
	return string(b)
}

func (s *scanner) typePart() api.Type { return s.typeAt(1) }

func (s *scanner) typeAt(depth int) api.Type {
	if depth > maxDepth {
		s.fail()
		return api.Type{}
	}
	t := api.Type{Kind: s.number()}
	s.must(':')
	t.Name = s.text()
	s.must(':')
	t.Cap = s.number()
	s.must(':')
	t.Mark = s.number()
	s.parts(func() { t.Args = append(t.Args, s.typeAt(depth+1)) })
	return t
}

func (s *scanner) valuePart() api.Value { return s.valueAt(1) }

func (s *scanner) valueAt(depth int) api.Value {
	if depth > maxDepth {
		s.fail()
		return api.Value{}
	}
	v := api.Value{Kind: s.number()}
	s.must(':')
	v.Lo = s.bits()
	s.must(':')
	v.Hi = s.bits()
	s.must(':')
	v.Name = s.text()
	s.parts(func() { v.Kids = append(v.Kids, s.valueAt(depth+1)) })
	return v
}

// parts reads what stands in brackets, if there are any.
func (s *scanner) parts(one func()) {
	if !s.eat('(') {
		return
	}
	one()
	for !s.bad && s.eat(',') {
		one()
	}
	s.must(')')
}
