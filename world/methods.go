package world

import (
	"slices"
	"strings"

	"hackamore/api"
	"hackamore/num"
	"hackamore/walk"
)

// usize is the type of the numbers that count, and anything a type of arguments of which nothing is asked.
const (
	usize    = "USize"
	anything = ""
)

// call is a call of a method that the runtime gives.
type call struct {
	w        *World
	actor    int
	receiver api.Value
	args     []api.Value
}

// method is a method that the runtime gives: the types of its parameters, and what it does.
type method struct {
	params []string
	do     func(*call) (api.Value, bool, api.Errno)
}

// methodsOf returns the methods that the runtime gives to a value that is no number and no Bool.
func (w *World) methodsOf(v api.Value) map[string]method {
	typ := w.Type(v)
	switch {
	case v.Kind == api.ValUnit && v.Name == noneName:
		return map[string]method{"string": {nil, (*call).noneText}}
	case v.Kind == api.ValActor && v.Lo == 0:
		return map[string]method{"print": {[]string{stringName}, (*call).print}}
	case v.Kind == api.ValObject && typ == stringName:
		return stringMethods()
	case v.Kind == api.ValObject && isArray(typ):
		return map[string]method{
			"size":   {nil, (*call).arraySize},
			"apply":  {[]string{usize}, (*call).element},
			"update": {[]string{usize, anything}, (*call).update},
			"push":   {[]string{anything}, (*call).push},
			"pop":    {nil, (*call).pop},
		}
	}
	return nil
}

func stringMethods() map[string]method {
	one := []string{stringName}
	return map[string]method{
		"size":      {nil, (*call).stringSize},
		"apply":     {[]string{usize}, (*call).byteAt},
		"add":       {one, (*call).join},
		"eq":        {one, (*call).eq},
		"ne":        {one, (*call).ne},
		"lt":        {one, (*call).lt},
		"le":        {one, (*call).le},
		"gt":        {one, (*call).gt},
		"ge":        {one, (*call).ge},
		"substring": {[]string{usize, usize}, (*call).substring},
		"string":    {nil, (*call).same},
	}
}

// Call calls a method that is given by the runtime: its result, and whether it raised an error.
func (w *World) Call(actor int, receiver api.Value, name string, args []api.Value) (api.Value, bool, api.Errno) {
	if e := w.wrongActor(actor); e != api.OK {
		return api.Value{}, false, e
	}
	if !w.isGiven(receiver) || !w.areGiven(args) {
		return api.Value{}, false, ErrBroken
	}
	c := &call{w: w, actor: actor, receiver: receiver, args: args}
	if num.Check(receiver) == api.OK {
		return c.number(name)
	}
	m, ok := w.methodsOf(receiver)[name]
	if !ok {
		return api.Value{}, false, ErrMethod
	}
	if len(args) != len(m.params) {
		return api.Value{}, false, api.ErrSize
	}
	for i, typ := range m.params {
		if !w.isArgument(args[i], typ) {
			return api.Value{}, false, api.ErrType
		}
	}
	return m.do(c)
}

// isArgument reports whether a right value is a String, or a number, as a parameter asks for it.
func (w *World) isArgument(v api.Value, typ string) bool {
	switch typ {
	case stringName:
		return v.Kind == api.ValObject && w.Type(v) == stringName
	case usize:
		return v.Kind == kindOf(usize)
	}
	return true
}

// number calls a method of a number or a Bool.
func (c *call) number(name string) (api.Value, bool, api.Errno) {
	if name != "string" {
		return num.Call(c.w.Type(c.receiver), name, slices.Insert(slices.Clone(c.args), 0, c.receiver))
	}
	if len(c.args) > 0 {
		return api.Value{}, false, api.ErrSize
	}
	s, _ := num.Text(c.receiver)
	return c.text(s)
}

// text returns a new String.
func (c *call) text(s string) (api.Value, bool, api.Errno) {
	v, e := c.w.Text(c.actor, s)
	return v, false, e
}

func given(v api.Value) (api.Value, bool, api.Errno) { return v, false, api.OK }

func raised() (api.Value, bool, api.Errno) { return api.Value{}, true, api.OK }

func (c *call) noneText() (api.Value, bool, api.Errno) { return c.text(noneName) }

func (c *call) print() (api.Value, bool, api.Errno) {
	if len(c.w.state.Output) >= api.MaxFuel {
		return api.Value{}, false, api.ErrFull
	}
	c.w.state.Output = append(c.w.state.Output, c.bytes(c.args[0]))
	return given(unit(noneName))
}

// bytes returns the bytes of a String.
func (c *call) bytes(v api.Value) string { return c.w.state.Cells[v.Lo].Bytes }

func counted(n int) (api.Value, bool, api.Errno) {
	return given(api.Value{Kind: kindOf(usize), Lo: uint64(n)})
}

func kindOf(typ string) int {
	kind, _ := num.Kind(typ)
	return kind
}

func truth(b bool) (api.Value, bool, api.Errno) {
	v := api.Value{Kind: api.ValBool}
	if b {
		v.Lo = 1
	}
	return given(v)
}

func (c *call) stringSize() (api.Value, bool, api.Errno) { return counted(len(c.bytes(c.receiver))) }

func (c *call) byteAt() (api.Value, bool, api.Errno) {
	s := c.bytes(c.receiver)
	if i := c.args[0].Lo; i < uint64(len(s)) {
		return given(api.Value{Kind: kindOf("U8"), Lo: uint64(s[i])})
	}
	return raised()
}

func (c *call) join() (api.Value, bool, api.Errno) {
	return c.text(c.bytes(c.receiver) + c.bytes(c.args[0]))
}

// compare compares the receiver with the argument, byte by byte.
func (c *call) compare() int { return strings.Compare(c.bytes(c.receiver), c.bytes(c.args[0])) }

func (c *call) eq() (api.Value, bool, api.Errno) { return truth(c.compare() == 0) }
func (c *call) ne() (api.Value, bool, api.Errno) { return truth(c.compare() != 0) }
func (c *call) lt() (api.Value, bool, api.Errno) { return truth(c.compare() < 0) }
func (c *call) le() (api.Value, bool, api.Errno) { return truth(c.compare() <= 0) }
func (c *call) gt() (api.Value, bool, api.Errno) { return truth(c.compare() > 0) }
func (c *call) ge() (api.Value, bool, api.Errno) { return truth(c.compare() >= 0) }

func (c *call) substring() (api.Value, bool, api.Errno) {
	s := c.bytes(c.receiver)
	to := min(c.args[1].Lo, uint64(len(s)))
	from := min(c.args[0].Lo, to)
	return c.text(s[from:to])
}

func (c *call) same() (api.Value, bool, api.Errno) { return given(walk.Value(c.receiver)) }

// elements returns where the elements of the receiver, an Array, are kept.
func (c *call) elements() *[]api.Value { return &c.w.state.Cells[c.receiver.Lo].Fields }

func (c *call) arraySize() (api.Value, bool, api.Errno) { return counted(len(*c.elements())) }

func (c *call) element() (api.Value, bool, api.Errno) {
	l := *c.elements()
	if i := c.args[0].Lo; i < uint64(len(l)) {
		return given(walk.Value(l[i]))
	}
	return raised()
}

func (c *call) update() (api.Value, bool, api.Errno) {
	l := *c.elements()
	i := c.args[0].Lo
	if i >= uint64(len(l)) {
		return raised()
	}
	old := l[i]
	l[i] = walk.Value(c.args[1])
	return given(old)
}

func (c *call) push() (api.Value, bool, api.Errno) {
	l := c.elements()
	if len(*l) >= MaxElements {
		return api.Value{}, false, api.ErrFull
	}
	*l = append(*l, walk.Value(c.args[0]))
	return given(unit(noneName))
}

func (c *call) pop() (api.Value, bool, api.Errno) {
	l := c.elements()
	last := len(*l) - 1
	if last < 0 {
		return raised()
	}
	old := (*l)[last]
	(*l)[last] = api.Value{}
	*l = (*l)[:last]
	return given(old)
}
