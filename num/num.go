// Package num is layer 15: integers of all sizes and two kinds of floats. See shared/doc/15-num.md.
package num

import "hackamore/api"

// Types returns the names of the number types.
func Types() []string {
	var l []string
	for _, s := range types {
		l = append(l, s.name)
	}
	return l
}

// Kind returns the kind of values of a number type (api.ValNumber and its index).
func Kind(typ string) (int, api.Errno) {
	i := index(typ)
	if i < 0 {
		return 0, api.ErrNone
	}
	return api.ValNumber + i, api.OK
}

// Name returns the number type of a kind.
func Name(kind int) (string, api.Errno) {
	if kind < api.ValNumber || kind >= api.ValNumber+len(types) {
		return "", api.ErrNone
	}
	return types[kind-api.ValNumber].name, api.OK
}

// Of returns the integer of a type with given lower bits.
func Of(typ string, n uint64) (api.Value, api.Errno) {
	i := index(typ)
	if i < 0 || types[i].float {
		return api.Value{}, api.ErrNone
	}
	return integer(i, wide{0, n}), api.OK
}

// Check returns the error of a value as a number.
func Check(v api.Value) api.Errno {
	if v.Name != "" || len(v.Kids) > 0 {
		return api.ErrForm
	}
	if v.Kind == api.ValBool {
		if v.Hi != 0 || v.Lo > 1 {
			return api.ErrForm
		}
		return api.OK
	}
	i := v.Kind - api.ValNumber
	if i < 0 || i >= len(types) || !canonical(i, v) {
		return api.ErrForm
	}
	return api.OK
}

// canonical reports whether the bits of a value are those of a number of a type.
func canonical(i int, v api.Value) bool {
	w := wide{v.Hi, v.Lo}
	if w != w.cut(types[i].bits) {
		return false
	}
	switch i {
	case f32:
		return v.Lo == float32Bits(single(v))
	case f64:
		return v.Lo == float64Bits(double(v))
	}
	return true
}

// Signature is what a method of a number type takes and returns.
type Signature struct {
	Name    string
	Params  []string
	Result  string
	Partial bool
}

// Methods returns the methods of a number type, or of Bool.
func Methods(typ string) ([]Signature, api.Errno) {
	var l []Signature
	for name := range methodNames(typ) {
		l = append(l, signature(typ, name))
	}
	if len(l) == 0 {
		return nil, api.ErrNone
	}
	return l, api.OK
}

// Call calls a method of a number, or of a Bool: the receiver is the first argument.
func Call(typ, method string, args []api.Value) (result api.Value, raised bool, e api.Errno) {
	run, kind := find(typ, method)
	if run == nil {
		return api.Value{}, false, api.ErrNone
	}
	if len(args) != 1+paramsOf(method) {
		return api.Value{}, false, api.ErrSize
	}
	for _, a := range args {
		if a.Kind != kind || Check(a) != api.OK {
			return api.Value{}, false, api.ErrType
		}
	}
	v, ok := run(args[0], args[len(args)-1])
	if !ok {
		return api.Value{}, true, api.OK
	}
	return v, false, api.OK
}

// Text returns the text of a number.
func Text(v api.Value) (string, api.Errno) {
	if e := Check(v); e != api.OK {
		return "", e
	}
	if v.Kind == api.ValBool {
		if v.Lo == 1 {
			return "true", api.OK
		}
		return "false", api.OK
	}
	switch i := v.Kind - api.ValNumber; i {
	case f32:
		return floatText(float64(single(v)), 32), api.OK
	case f64:
		return floatText(double(v), 64), api.OK
	default:
		return integerText(i, v), api.OK
	}
}

// Parse returns the number of a type with a text.
func Parse(typ, s string) (api.Value, api.Errno) {
	i := index(typ)
	if i < 0 {
		return api.Value{}, api.ErrNone
	}
	if len(s) > maxText {
		return api.Value{}, api.ErrLarge
	}
	if types[i].float {
		return parseFloat(i, s)
	}
	return parseInteger(i, s)
}
