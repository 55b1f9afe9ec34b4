package num

import "hackamore/api"

const maxText = 400 // bytes of a text that is parsed

// Indices of the number types.
const (
	i8 = iota
	i16
	i32
	i64
	i128
	isize
	u8
	u16
	u32
	u64
	u128
	usize
	f32
	f64
)

// typ is a number type: its name, the bits of its numbers, and whether they have a sign, or are floats.
type typ struct {
	name   string
	method string // the conversion to it
	bits   int
	signed bool
	float  bool
}

var types = [...]typ{
	i8:    {"I8", "i8", 8, true, false},
	i16:   {"I16", "i16", 16, true, false},
	i32:   {"I32", "i32", 32, true, false},
	i64:   {"I64", "i64", 64, true, false},
	i128:  {"I128", "i128", 128, true, false},
	isize: {"ISize", "isize", 64, true, false},
	u8:    {"U8", "u8", 8, false, false},
	u16:   {"U16", "u16", 16, false, false},
	u32:   {"U32", "u32", 32, false, false},
	u64:   {"U64", "u64", 64, false, false},
	u128:  {"U128", "u128", 128, false, false},
	usize: {"USize", "usize", 64, false, false},
	f32:   {"F32", "f32", 32, true, true},
	f64:   {"F64", "f64", 64, true, true},
}

// index returns the index of a number type, or -1.
func index(name string) int {
	for i, t := range types {
		if t.name == name {
			return i
		}
	}
	return -1
}

// integer returns the integer of a type with bits of which those that the type has not are left out.
func integer(i int, w wide) api.Value {
	w = w.cut(types[i].bits)
	return api.Value{Kind: api.ValNumber + i, Lo: w.lo, Hi: w.hi}
}

// value returns the bits of an integer; those ahead of its type's are those of its sign.
func value(i int, v api.Value) wide {
	w := wide{v.Hi, v.Lo}
	if types[i].signed {
		return w.extended(types[i].bits)
	}
	return w
}

func boolean(b bool) api.Value {
	if b {
		return api.Value{Kind: api.ValBool, Lo: 1}
	}
	return api.Value{Kind: api.ValBool}
}
