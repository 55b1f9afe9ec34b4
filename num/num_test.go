package num_test

import (
	"math"
	"math/big"
	"math/rand"
	"slices"
	"strconv"
	"strings"
	"testing"

	"hackamore/api"
	. "hackamore/num"
)

const names = "I8 I16 I32 I64 I128 ISize U8 U16 U32 U64 U128 USize F32 F64"

// width returns the bits of a type of integers, and whether it is signed.
func width(typ string) (int, bool) {
	n, e := strconv.Atoi(typ[1:])
	if e != nil {
		n = 64
	}
	return n, typ[0] == 'I'
}

// ends returns the least and the greatest number of a type.
func ends(typ string) (*big.Int, *big.Int) {
	n, signed := width(typ)
	one := big.NewInt(1)
	if signed {
		half := new(big.Int).Lsh(one, uint(n-1))
		return new(big.Int).Neg(half), new(big.Int).Sub(half, one)
	}
	return new(big.Int), new(big.Int).Sub(new(big.Int).Lsh(one, uint(n)), one)
}

func inside(typ string, x *big.Int) bool {
	least, most := ends(typ)
	return x.Cmp(least) >= 0 && x.Cmp(most) <= 0
}

// wrapped returns the number of a type that differs by a multiple of 2^n.
func wrapped(typ string, x *big.Int) *big.Int {
	n, _ := width(typ)
	_, most := ends(typ)
	all := new(big.Int).Lsh(big.NewInt(1), uint(n))
	m := new(big.Int).Mod(x, all)
	if m.Cmp(most) > 0 {
		m.Sub(m, all)
	}
	return m
}

// valueOf returns the value of a number of a type, by its definition.
func valueOf(typ string, x *big.Int) api.Value {
	n, _ := width(typ)
	m := new(big.Int).Mod(x, new(big.Int).Lsh(big.NewInt(1), uint(n)))
	kind, _ := Kind(typ)
	low := new(big.Int).And(m, new(big.Int).SetUint64(math.MaxUint64))
	return api.Value{Kind: kind, Lo: low.Uint64(), Hi: new(big.Int).Rsh(m, 64).Uint64()}
}

// some returns a number of a type, often one at an end.
func some(r *rand.Rand, typ string) *big.Int {
	least, most := ends(typ)
	x := big.NewInt(int64(r.Intn(7) - 3))
	switch r.Intn(6) {
	case 0:
		x.Add(x, least)
	case 1:
		x.Add(x, most)
	case 2, 3:
		n, _ := width(typ)
		x.SetUint64(r.Uint64())
		x.Lsh(x, 64).Add(x, new(big.Int).SetUint64(r.Uint64())).Rsh(x, uint(128-1-r.Intn(n)))
	}
	return wrapped(typ, x)
}

func integerTypes() []string { return strings.Fields(names)[:12] }

func TestTypes(t *testing.T) {
	if got := strings.Join(Types(), " "); got != names {
		t.Errorf("%s", got)
	}
	for i, typ := range Types() {
		kind, e := Kind(typ)
		name, f := Name(kind)
		if kind != api.ValNumber+i || e != api.OK || f != api.OK || name != typ {
			t.Errorf("%s: %d, %s, errors %d, %d", typ, kind, name, e, f)
		}
	}
	for _, typ := range []string{"", "Bool", "u8", "I9", "String", "F16"} {
		kind, e := Kind(typ)
		l, f := Methods(typ)
		v, g := Parse(typ, "1")
		w, h := Of(typ, 1)
		_, _, i := Call(typ, "add", nil)
		if kind != 0 || e != api.ErrNone || (f != api.ErrNone || l != nil) && typ != "Bool" || g != api.ErrNone || h != api.ErrNone || v.Kind != 0 || w.Kind != 0 || i != api.ErrNone {
			t.Errorf("%s: errors %d, %d, %d, %d, %d", typ, e, f, g, h, i)
		}
	}
	for _, kind := range []int{-1, 0, 1, 9, 24, math.MaxInt, math.MinInt} {
		if name, e := Name(kind); name != "" || e != api.ErrNone {
			t.Errorf("Name(%d): %s, error %d", kind, name, e)
		}
	}
	for _, typ := range integerTypes() {
		v, e := Of(typ, math.MaxUint64)
		n, _ := width(typ)
		if want := uint64(math.MaxUint64) >> max(0, 64-n); e != api.OK || v.Lo != want || v.Hi != 0 || Check(v) != api.OK {
			t.Errorf("Of(%s): %v, error %d", typ, v, e)
		}
	}
	if _, e := Of("F64", 1); e != api.ErrNone {
		t.Errorf("Of(F64): error %d", e)
	}
}

func TestMethods(t *testing.T) {
	both := "add sub mul div rem add_partial? sub_partial? mul_partial? div_partial? rem_partial? neg- eq= ne= lt= le= gt= ge= min max abs- "
	integers := "op_and op_or op_xor op_not- shl shr popcount- clz- ctz- "
	floats := "sqrt- floor- ceil- trunc- round- finite-= nan-= "
	all := map[string]string{"Bool": "eq= ne= op_and= op_or= op_xor= op_not-= string-"}
	for i, typ := range Types() {
		all[typ] = both + integers
		if i >= 12 {
			all[typ] = both + floats
		}
		for _, to := range Types() {
			all[typ] += strings.ToLower(to) + "- "
		}
		all[typ] += "string-"
	}
	for typ, list := range all {
		l, e := Methods(typ)
		words := strings.Fields(list)
		if e != api.OK || len(l) != len(words) {
			t.Fatalf("%s: %d methods, error %d", typ, len(l), e)
		}
		for i, w := range words {
			m := l[i]
			want := Signature{Name: strings.Trim(w, "-=?"), Result: typ, Partial: strings.HasSuffix(w, "?")}
			if !strings.Contains(w, "-") {
				want.Params = []string{typ}
			}
			if strings.Contains(w, "=") {
				want.Result = "Bool"
			}
			if want.Name == "string" {
				want.Result = "String"
			}
			for _, to := range Types() {
				if strings.ToLower(to) == want.Name {
					want.Result = to
				}
			}
			if m.Name != want.Name || m.Result != want.Result || m.Partial != want.Partial || !slices.Equal(m.Params, want.Params) {
				t.Errorf("%s: %v, want %v", typ, m, want)
			}
		}
	}
}

// integerResult returns what a method of integers gives, by big numbers; nil, if it raises.
func integerResult(typ, method string, x, y *big.Int) *big.Int {
	n, signed := width(typ)
	exact := new(big.Int)
	name, partial := strings.CutSuffix(method, "_partial")
	bits := func(z *big.Int) *big.Int { return new(big.Int).Mod(z, new(big.Int).Lsh(big.NewInt(1), uint(n))) }
	switch name {
	case "add":
		exact.Add(x, y)
	case "sub":
		exact.Sub(x, y)
	case "mul":
		exact.Mul(x, y)
	case "div", "rem":
		if y.Sign() == 0 {
			if partial {
				return nil
			}
			return exact
		}
		q, r := new(big.Int).QuoRem(x, y, new(big.Int))
		if partial && !inside(typ, q) {
			return nil
		}
		exact = map[string]*big.Int{"div": q, "rem": r}[name]
	case "neg":
		exact.Neg(x)
	case "abs":
		exact.Abs(x)
	case "min", "max":
		exact = x
		if (x.Cmp(y) > 0) == (name == "min") && x.Cmp(y) != 0 {
			exact = y
		}
	case "op_and":
		exact.And(x, y)
	case "op_or":
		exact.Or(x, y)
	case "op_xor":
		exact.Xor(x, y)
	case "op_not":
		exact.Not(x)
	case "shl", "shr":
		by := bits(y)
		if by.Cmp(big.NewInt(int64(n))) >= 0 {
			if name == "shr" && signed && x.Sign() < 0 {
				return big.NewInt(-1)
			}
			return exact
		}
		if name == "shl" {
			exact.Lsh(x, uint(by.Uint64()))
		} else {
			exact.Rsh(x, uint(by.Uint64()))
		}
	case "popcount":
		exact.SetInt64(int64(strings.Count(bits(x).Text(2), "1")))
	case "clz":
		exact.SetInt64(int64(n - bits(x).BitLen()))
	case "ctz":
		exact.SetInt64(int64(n))
		if x.Sign() != 0 {
			exact.SetInt64(int64(bits(x).TrailingZeroBits()))
		}
	}
	if partial && !inside(typ, exact) {
		return nil
	}
	return wrapped(typ, exact)
}

// TestIntegers: all methods of integers, by big numbers.
func TestIntegers(t *testing.T) {
	r := rand.New(rand.NewSource(1))
	for _, typ := range integerTypes() {
		l, _ := Methods(typ)
		for range 600 {
			x, y := some(r, typ), some(r, typ)
			if r.Intn(3) == 0 {
				y = wrapped(typ, big.NewInt(int64(r.Intn(140))))
			}
			for _, m := range l {
				args := []api.Value{valueOf(typ, x)}
				if len(m.Params) == 1 {
					args = append(args, valueOf(typ, y))
				}
				got, raised, e := Call(typ, m.Name, args)
				if m.Name == "string" {
					if e != api.ErrNone {
						t.Fatalf("string: error %d", e)
					}
					continue
				}
				if e != api.OK {
					t.Fatalf("%s.%s: error %d", typ, m.Name, e)
				}
				want := api.Value{}
				switch {
				case m.Result == "Bool":
					c := x.Cmp(y)
					ok := map[string]bool{"eq": c == 0, "ne": c != 0, "lt": c < 0, "le": c <= 0, "gt": c > 0, "ge": c >= 0}[m.Name]
					want = api.Value{Kind: api.ValBool}
					if ok {
						want.Lo = 1
					}
				case strings.ToUpper(m.Name) == strings.ToUpper(m.Result):
					want = convertedInteger(m.Result, x)
				default:
					z := integerResult(typ, m.Name, x, y)
					if z == nil != raised {
						t.Fatalf("%s.%s(%v, %v): raised %v", typ, m.Name, x, y, raised)
					}
					if z != nil {
						want = valueOf(typ, z)
					}
				}
				if !sameValue(got, want) {
					t.Fatalf("%s.%s(%v, %v): %v, want %v", typ, m.Name, x, y, got, want)
				}
			}
		}
	}
}

// sameValue compares values without Kids.
func sameValue(a, b api.Value) bool {
	return a.Kind == b.Kind && a.Lo == b.Lo && a.Hi == b.Hi && a.Name == b.Name && len(a.Kids)+len(b.Kids) == 0
}

func convertedInteger(to string, x *big.Int) api.Value {
	switch to {
	case "F32":
		f, _ := new(big.Float).SetInt(x).Float32()
		return single(f)
	case "F64":
		f, _ := new(big.Float).SetInt(x).Float64()
		return double(f)
	}
	return valueOf(to, x)
}

func single(f float32) api.Value {
	v := api.Value{Kind: api.ValNumber + 12, Lo: uint64(math.Float32bits(f))}
	if f != f {
		v.Lo = 0x7fc00000
	}
	return v
}

func double(f float64) api.Value {
	v := api.Value{Kind: api.ValNumber + 13, Lo: math.Float64bits(f)}
	if f != f {
		v.Lo = 0x7ff8000000000000
	}
	return v
}

var doubles = []float64{0, math.Copysign(0, -1), 1, -1, 0.5, -0.5, 1.5, -1.5, 2.5, -2.5, 0.49999999999999994, 1e300, -1e300, 5e-324, -5e-324, math.MaxFloat64, -math.MaxFloat64, math.Inf(1), math.Inf(-1), math.NaN(),
	math.MaxFloat32, 0x1.ffffffp127, -0x1.ffffffp127, 0x1.fffffefp127, 1e-46, 1.4e-45, 127, 128, -128, -129, 255.9, 256, 1 << 63, -(1 << 63), 1 << 64, 0x1p127, -0x1p127, 0x1p128, 0x1.fffffffffffffp127, 9007199254740993, 0.1, 3, -7.5, 2}

func someDouble(r *rand.Rand) float64 {
	switch r.Intn(4) {
	case 0:
		return math.Float64frombits(r.Uint64())
	case 1:
		return float64(r.Intn(2000)-1000) / float64(int(1)<<r.Intn(8))
	}
	return doubles[r.Intn(len(doubles))]
}

// floatResult returns what a method of F64 gives; of F32, the rules are those of float32 by way of float64.
func floatResult(method string, x, y float64) float64 {
	name, _ := strings.CutSuffix(method, "_partial")
	switch name {
	case "add":
		return x + y
	case "sub":
		return x - y
	case "mul":
		return x * y
	case "div":
		return x / y
	case "rem":
		return remainder(x, y)
	case "neg":
		return math.Float64frombits(math.Float64bits(x) ^ 1<<63)
	case "abs":
		return math.Float64frombits(math.Float64bits(x) &^ (1 << 63))
	case "min", "max":
		if y != y || (name == "min" && x <= y) || (name == "max" && x >= y) {
			return x
		}
		return y
	case "sqrt":
		return math.Sqrt(x)
	case "floor":
		return math.Floor(x)
	case "ceil":
		return math.Ceil(x)
	case "trunc":
		return math.Trunc(x)
	}
	if math.IsInf(x, 0) || math.Abs(x) >= 1<<52 || x != x { // round
		return x
	}
	z := math.Trunc(math.Abs(x))
	if math.Abs(x)-z >= 0.5 {
		z++
	}
	return math.Copysign(z, x)
}

// remainder is exact, by fractions.
func remainder(x, y float64) float64 {
	switch {
	case y == 0 || math.IsInf(x, 0) || x != x || y != y:
		return math.NaN()
	case math.IsInf(y, 0) || x == 0:
		return x
	}
	a, b := new(big.Rat).SetFloat64(x), new(big.Rat).SetFloat64(y)
	q := new(big.Rat).Quo(a, b)
	n := new(big.Int).Quo(q.Num(), q.Denom())
	a.Sub(a, b.Mul(b, new(big.Rat).SetInt(n)))
	z, _ := a.Float64()
	return math.Copysign(z, x)
}

func floatTest(method string, x, y float64) bool {
	return map[string]bool{"eq": x == y, "ne": x != y, "lt": x < y, "le": x <= y, "gt": x > y, "ge": x >= y, "finite": x-x == 0, "nan": x != x}[method]
}

// floatToInteger returns the nearest number of a type, without what is behind the point.
func floatToInteger(to string, x float64) *big.Int {
	least, most := ends(to)
	switch {
	case x != x:
		return new(big.Int)
	case math.IsInf(x, 1):
		return most
	case math.IsInf(x, -1):
		return least
	}
	z, _ := new(big.Float).SetFloat64(x).Int(nil)
	if z.Cmp(least) < 0 {
		return least
	}
	if z.Cmp(most) > 0 {
		return most
	}
	return z
}

// TestFloats: all methods of floats.
func TestFloats(t *testing.T) {
	r := rand.New(rand.NewSource(2))
	for i := range 6000 {
		x, y := someDouble(r), someDouble(r)
		typ, make := "F64", double
		round := func(z float64) float64 { return z }
		if i%2 == 0 {
			typ, make = "F32", func(z float64) api.Value { return single(float32(z)) }
			round = func(z float64) float64 { return float64(float32(z)) }
			x, y = round(x), round(y)
		}
		l, _ := Methods(typ)
		for _, m := range l[:len(l)-1] {
			args := []api.Value{make(x)}
			if len(m.Params) == 1 {
				args = append(args, make(y))
			}
			got, raised, e := Call(typ, m.Name, args)
			if e != api.OK || raised != (m.Partial && !isFinite(round(floatResult(m.Name, x, y)))) {
				t.Fatalf("%s.%s(%v, %v): raised %v, error %d", typ, m.Name, x, y, raised, e)
			}
			want := api.Value{}
			switch {
			case m.Result == "Bool":
				want = api.Value{Kind: api.ValBool}
				if floatTest(m.Name, x, y) {
					want.Lo = 1
				}
			case m.Name == "f32":
				want = single(float32(x))
			case m.Name == "f64":
				want = double(x)
			case strings.ToLower(m.Result) == m.Name:
				want = valueOf(m.Result, floatToInteger(m.Result, x))
			case !raised:
				want = make(round(floatResult(m.Name, x, y)))
			}
			if !sameValue(got, want) {
				t.Fatalf("%s.%s(%v, %v): %x, want %x", typ, m.Name, x, y, got, want)
			}
		}
	}
}

func isFinite(x float64) bool { return !math.IsInf(x, 0) && x == x }

func TestBools(t *testing.T) {
	b := func(x bool) api.Value {
		if x {
			return api.Value{Kind: api.ValBool, Lo: 1}
		}
		return api.Value{Kind: api.ValBool}
	}
	for _, x := range []bool{false, true} {
		for _, y := range []bool{false, true} {
			for name, want := range map[string]bool{"eq": x == y, "ne": x != y, "op_and": x && y, "op_or": x || y, "op_xor": x != y} {
				if got, raised, e := Call("Bool", name, []api.Value{b(x), b(y)}); e != api.OK || raised || !sameValue(got, b(want)) {
					t.Errorf("%v %s %v: %v, error %d", x, name, y, got, e)
				}
			}
		}
		if got, _, e := Call("Bool", "op_not", []api.Value{b(x)}); e != api.OK || !sameValue(got, b(!x)) {
			t.Errorf("not %v: %v, error %d", x, got, e)
		}
		if s, e := Text(b(x)); e != api.OK || s != strconv.FormatBool(x) {
			t.Errorf("Text of %v: %s, error %d", x, s, e)
		}
	}
}

func TestCallErrors(t *testing.T) {
	u8, _ := Of("U8", 1)
	i8, _ := Of("I8", 1)
	bad := api.Value{Kind: u8.Kind, Lo: 256}
	yes := api.Value{Kind: api.ValBool, Lo: 1}
	for i, x := range []struct {
		typ, method string
		args        []api.Value
		e           api.Errno
	}{
		{"", "add", nil, api.ErrNone}, {"String", "add", nil, api.ErrNone}, {"U8", "sqrt", []api.Value{u8}, api.ErrNone}, {"F32", "shl", nil, api.ErrNone}, {"U8", "string", []api.Value{u8}, api.ErrNone}, {"Bool", "string", nil, api.ErrNone}, {"Bool", "add", nil, api.ErrNone},
		{"U8", "", nil, api.ErrNone}, {"U8", "add", nil, api.ErrSize}, {"U8", "add", []api.Value{u8}, api.ErrSize}, {"U8", "add", []api.Value{u8, u8, u8}, api.ErrSize}, {"U8", "neg", []api.Value{u8, u8}, api.ErrSize}, {"U8", "neg", nil, api.ErrSize}, {"U8", "add", []api.Value{bad}, api.ErrSize},
		{"U8", "add", []api.Value{i8, u8}, api.ErrType}, {"U8", "add", []api.Value{u8, i8}, api.ErrType}, {"U8", "add", []api.Value{u8, bad}, api.ErrType}, {"U8", "neg", []api.Value{bad}, api.ErrType}, {"U8", "neg", []api.Value{yes}, api.ErrType}, {"Bool", "op_not", []api.Value{u8}, api.ErrType},
		{"U8", "neg", []api.Value{{Kind: u8.Kind, Name: "x"}}, api.ErrType}, {"U8", "neg", []api.Value{{Kind: u8.Kind, Kids: []api.Value{u8}}}, api.ErrType}, {"Bool", "eq", []api.Value{yes, {Kind: api.ValBool, Lo: 2}}, api.ErrType}, {"U8", "add", []api.Value{u8, u8}, api.OK},
	} {
		v, raised, e := Call(x.typ, x.method, x.args)
		if e != x.e || raised || e != api.OK && !sameValue(v, api.Value{}) {
			t.Errorf("%d: %v, error %d, want %d", i, v, e, x.e)
		}
	}
}

func TestCheck(t *testing.T) {
	kind := func(typ string) int { k, _ := Kind(typ); return k }
	for _, v := range []api.Value{
		{}, {Kind: 9}, {Kind: 24}, {Kind: -1}, {Kind: api.ValObject}, {Kind: api.ValUnit, Name: "None"}, {Kind: api.ValBool, Lo: 2}, {Kind: api.ValBool, Hi: 1}, {Kind: api.ValBool, Name: "x"}, {Kind: kind("U8"), Lo: 256}, {Kind: kind("I8"), Lo: math.MaxUint64},
		{Kind: kind("I32"), Lo: 1 << 32}, {Kind: kind("U64"), Hi: 1}, {Kind: kind("ISize"), Hi: 1}, {Kind: kind("F32"), Lo: 1 << 32}, {Kind: kind("F32"), Lo: 0x7fc00001}, {Kind: kind("F32"), Lo: 0xffc00000}, {Kind: kind("F32"), Lo: 0x7f800001}, {Kind: kind("F64"), Hi: 1},
		{Kind: kind("F64"), Lo: 0x7ff8000000000001}, {Kind: kind("F64"), Lo: 0xfff8000000000000}, {Kind: kind("F64"), Lo: 0x7ff0000000000001}, {Kind: kind("U8"), Name: "U8"}, {Kind: kind("U8"), Kids: []api.Value{{}}},
	} {
		s, e := Text(v)
		if Check(v) != api.ErrForm || s != "" || e != api.ErrForm {
			t.Errorf("%v: error %d, %d", v, Check(v), e)
		}
	}
	for _, v := range []api.Value{
		{Kind: api.ValBool}, {Kind: api.ValBool, Lo: 1, Kids: []api.Value{}}, {Kind: kind("U8"), Lo: 255}, {Kind: kind("I8"), Lo: 255}, {Kind: kind("I128"), Lo: math.MaxUint64, Hi: math.MaxUint64}, {Kind: kind("F32"), Lo: 0x7fc00000}, {Kind: kind("F64"), Lo: 0x7ff8000000000000},
		{Kind: kind("F32"), Lo: 0xff800000}, {Kind: kind("F64"), Lo: 1}, {Kind: kind("USize"), Lo: math.MaxUint64},
	} {
		if e := Check(v); e != api.OK {
			t.Errorf("%v: error %d", v, e)
		}
	}
}

func TestParse(t *testing.T) {
	for _, x := range []struct{ typ, s, text string }{
		{"U8", "0", "0"}, {"U8", "255", "255"}, {"U8", "-0", "0"}, {"I8", "-128", "-128"}, {"I8", "127", "127"}, {"U8", "0007", "7"}, {"I128", "-170141183460469231731687303715884105728", "-170141183460469231731687303715884105728"},
		{"U128", "340282366920938463463374607431768211455", "340282366920938463463374607431768211455"}, {"USize", "18446744073709551615", "18446744073709551615"}, {"I8", strings.Repeat("0", 399) + "7", "7"},
		{"F64", "1", "1.0"}, {"F64", "-0", "-0.0"}, {"F64", "0.0", "0.0"}, {"F64", "nan", "nan"}, {"F64", "inf", "inf"}, {"F32", "-inf", "-inf"}, {"F64", "1e400", "inf"}, {"F64", "-1e400", "-inf"}, {"F32", "1e39", "inf"}, {"F64", "1e-400", "0.0"}, {"F64", "1e999999999999999999999", "inf"},
		{"F64", "0e999999999999999999999", "0.0"}, {"F64", "1.5e+3", "1500.0"}, {"F64", "1.5e-3", "0.0015"}, {"F64", "007.50", "7.5"}, {"F32", "0.1", "0.1"}, {"F32", "16777217", "16777216.0"}, {"F32", "16777217.000000001", "16777218.0"}, {"F64", "1e20", "1.0e20"},
		{"F64", "0.001", "0.001"}, {"F64", "0.0001", "0.0001"}, {"F64", "0.00012", "0.00012"}, {"F64", "0.00001", "1.0e-5"}, {"F64", "0.000015", "1.5e-5"}, {"F64", "1.5e-7", "1.5e-7"}, {"F64", "120", "120.0"}, {"F64", "100000000000000", "100000000000000.0"}, {"F64", "123456789012345", "123456789012345.0"},
		{"F64", "999999999999999.9", "999999999999999.9"}, {"F64", "1000000000000000", "1.0e15"}, {"F64", "1234567890123456", "1.234567890123456e15"}, {"F64", "5e-324", "5.0e-324"}, {"F64", "1.7976931348623157e308", "1.7976931348623157e308"}, {"F32", "1e-45", "1.0e-45"}, {"F32", "3.4028235e38", "3.4028235e38"},
		{"F64", "12.5", "12.5"}, {"F64", "5.684341886080802e-14", "5.684341886080802e-14"}, {"F64", "9007199254740993", "9.007199254740992e15"},
	} {
		v, e := Parse(x.typ, x.s)
		if s, f := Text(v); e != api.OK || f != api.OK || s != x.text {
			t.Errorf("%s %s: %s, errors %d, %d, want %s", x.typ, x.s, s, e, f, x.text)
		}
	}
	wrong := []string{"", "-", "x", "+1", "--1", "1-", " 1", "1 ", "1_0", "0x1", "1a"}
	for typ, l := range map[string][]string{
		"U8": append(wrong, "1.0", "1e1", "nan", "inf", "300x"), "I128": append(wrong, "1.", "-+1"),
		"F64": append(wrong, ".", ".5", "5.", "-.5", "1e", "1e+", "1e-", "e5", "1.e5", "1E5", "1e5.0", "1.5.5", "-nan", "NaN", "Inf", "+inf", "infinity", "1e++5", "1e5 ", "0x1p3", "1f"), "F32": append(wrong, "1e_5"),
	} {
		for _, s := range l {
			if v, e := Parse(typ, s); e != api.ErrForm || v.Kind != 0 {
				t.Errorf("%s %q: %v, error %d", typ, s, v, e)
			}
		}
	}
	for _, typ := range integerTypes() {
		least, most := ends(typ)
		for _, x := range []*big.Int{new(big.Int).Sub(least, big.NewInt(1)), new(big.Int).Add(most, big.NewInt(1)), new(big.Int).Exp(big.NewInt(10), big.NewInt(300), nil)} {
			if v, e := Parse(typ, x.String()); e != api.ErrRange || v.Kind != 0 {
				t.Errorf("%s %v: %v, error %d", typ, x, v, e)
			}
		}
	}
	for _, typ := range []string{"U8", "F64"} {
		if _, e := Parse(typ, strings.Repeat("0", 400)); e != api.OK {
			t.Errorf("the longest text: error %d", e)
		}
		if v, e := Parse(typ, strings.Repeat("x", 401)); e != api.ErrLarge || v.Kind != 0 {
			t.Errorf("too long a text: error %d", e)
		}
	}
}

// TestTexts: P15.6, and that texts of floats have the fewest digits, of these the nearest ones, and even ones of two.
func TestTexts(t *testing.T) {
	r := rand.New(rand.NewSource(3))
	for range 3000 {
		for _, typ := range integerTypes() {
			x := some(r, typ)
			v := valueOf(typ, x)
			s, e := Text(v)
			back, f := Parse(typ, s)
			if e != api.OK || f != api.OK || s != x.String() || !sameValue(back, v) {
				t.Fatalf("%s %v: %s, errors %d, %d", typ, x, s, e, f)
			}
		}
	}
	for i := range 6000 {
		x := someDouble(r)
		if i < 2200 {
			x = math.Ldexp(1, i-1075)
		}
		shortest(t, "F64", double(x), x, 64)
		y := float32(x)
		if i < 2200 {
			y = math.Float32frombits(uint32(i) << 23 >> uint(i&1))
		} else if r.Intn(2) == 0 {
			y = math.Float32frombits(r.Uint32())
		}
		shortest(t, "F32", single(y), float64(y), 32)
	}
}

// nearest returns the float that is nearest to a fraction, as a float64.
func nearest(x *big.Rat, bits int) float64 {
	if bits == 32 {
		f, _ := x.Float32()
		return float64(f)
	}
	f, _ := x.Float64()
	return f
}

func shortest(t *testing.T, typ string, v api.Value, x float64, bits int) {
	t.Helper()
	s, e := Text(v)
	back, f := Parse(typ, s)
	if e != api.OK || f != api.OK || !sameValue(back, v) {
		t.Fatalf("%s %v: %s, errors %d, %d", typ, x, s, e, f)
	}
	if !isFinite(x) || x == 0 {
		return
	}
	exact := new(big.Rat).SetFloat64(math.Abs(x))
	got, _ := new(big.Rat).SetString(strings.TrimPrefix(s, "-"))
	mantissa, _, _ := strings.Cut(strings.TrimPrefix(s, "-"), "e")
	digits := strings.TrimRight(strings.TrimLeft(strings.Replace(mantissa, ".", "", 1), "0"), "0")
	for k := 1; k <= len(digits); k++ {
		low, high := around(exact, k)
		fits := func(c *big.Rat) bool { return nearest(c, bits) == math.Abs(x) }
		if k < len(digits) {
			if fits(low) || fits(high) {
				t.Fatalf("%s %v: %s is not the shortest one", typ, x, s)
			}
			continue
		}
		a, b := new(big.Rat).Sub(exact, low), new(big.Rat).Sub(high, exact)
		want := low
		if !fits(low) || fits(high) && (b.Cmp(a) < 0 || b.Cmp(a) == 0 && odd(low, k)) {
			want = high
		}
		if got.Cmp(want) != 0 {
			t.Fatalf("%s %v: %s, want %s", typ, x, s, want.FloatString(40))
		}
	}
}

// unit returns the place of the last of k digits of a number, as a power of ten.
func unit(x *big.Rat, k int) *big.Rat {
	f, _ := x.Float64()
	power := int(math.Floor(math.Log10(f))) - k
	ten := func(p int) *big.Rat {
		z := new(big.Rat).SetInt(new(big.Int).Exp(big.NewInt(10), big.NewInt(int64(max(p, -p))), nil))
		if p < 0 {
			z.Inv(z)
		}
		return z
	}
	for ten(power+k).Cmp(x) <= 0 {
		power++
	}
	for ten(power+k-1).Cmp(x) > 0 {
		power--
	}
	return ten(power)
}

// around returns the numbers with k digits on both sides of a number.
func around(x *big.Rat, k int) (low, high *big.Rat) {
	u := unit(x, k)
	q := new(big.Rat).Quo(x, u)
	n := new(big.Int).Quo(q.Num(), q.Denom())
	low = new(big.Rat).Mul(new(big.Rat).SetInt(n), u)
	return low, new(big.Rat).Add(low, u)
}

func odd(x *big.Rat, k int) bool {
	q := new(big.Rat).Quo(x, unit(x, k))
	return q.Num().Bit(0) == 1
}

// TestExamples: the section Examples of the chapter.
func TestExamples(t *testing.T) {
	call := func(typ, method string, texts ...string) (string, bool) {
		var args []api.Value
		for _, s := range texts {
			v, e := Parse(typ, s)
			if e != api.OK {
				t.Fatalf("%s %s: error %d", typ, s, e)
			}
			args = append(args, v)
		}
		v, raised, e := Call(typ, method, args)
		if e != api.OK {
			t.Fatalf("%s.%s: error %d", typ, method, e)
		}
		s, _ := Text(v)
		return s, raised
	}
	if s, raised := call("U8", "add", "250", "10"); s != "4" || raised {
		t.Errorf("add: %s, %v", s, raised)
	}
	if _, raised := call("U8", "add_partial", "250", "10"); !raised {
		t.Error("add_partial does not raise")
	}
	if s, _ := call("I8", "div", "-128", "-1"); s != "-128" {
		t.Errorf("div: %s", s)
	}
	if s, _ := call("F64", "i8", "300.0"); s != "127" {
		t.Errorf("i8: %s", s)
	}
	if s, e := Text(api.Value{Kind: api.ValNumber + 12, Lo: 0x3dcccccd}); s != "0.1" || e != api.OK {
		t.Errorf("3dcccccd: %s, error %d", s, e)
	}
}

// TestLaws: P15.2 to P15.5, by the methods alone.
func TestLaws(t *testing.T) {
	r := rand.New(rand.NewSource(4))
	for _, typ := range Types() {
		call := func(method string, args ...api.Value) api.Value {
			v, _, e := Call(typ, method, args)
			if e != api.OK {
				t.Fatalf("%s.%s: error %d", typ, method, e)
			}
			return v
		}
		yes := func(method string, args ...api.Value) bool { return call(method, args...).Lo == 1 }
		for range 300 {
			var v [3]api.Value
			for i := range v {
				switch typ {
				case "F32":
					v[i] = single(float32(someDouble(r)))
				case "F64":
					v[i] = double(someDouble(r))
				default:
					v[i] = valueOf(typ, some(r, typ))
				}
			}
			x, y, z := v[0], v[1], v[2]
			if !sameValue(call(strings.ToLower(typ), x), x) {
				t.Fatalf("%s: a conversion of %v to itself", typ, x)
			}
			if m := call("min", x, y); !sameValue(m, x) && !sameValue(m, y) {
				t.Fatalf("%s: min of %v and %v is %v", typ, x, y, m)
			}
			if yes("lt", x, y) && (yes("lt", y, x) || yes("ge", x, y) || yes("eq", x, y) || yes("lt", y, z) && !yes("lt", x, z)) {
				t.Fatalf("%s: lt of %v, %v, %v", typ, x, y, z)
			}
			if typ[0] == 'F' {
				continue
			}
			sum := call("add", call("op_xor", x, y), call("shl", call("op_and", x, y), valueOf(typ, big.NewInt(1))))
			if !sameValue(sum, call("add", x, y)) || !sameValue(call("mul", x, call("add", y, z)), call("add", call("mul", x, y), call("mul", x, z))) || !sameValue(call("add", x, call("neg", x)), valueOf(typ, new(big.Int))) {
				t.Fatalf("%s: no ring with %v, %v, %v", typ, x, y, z)
			}
			if y.Lo != 0 || y.Hi != 0 {
				if back := call("add", call("mul", call("div", x, y), y), call("rem", x, y)); !sameValue(back, x) {
					t.Fatalf("%s: %v divided by %v", typ, x, y)
				}
			}
		}
	}
}
