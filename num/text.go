package num

import (
	"math"
	"strconv"
	"strings"

	"hackamore/api"
)

// Digits of floats stand around a point, if it is not farther from their first one than this.
const (
	leastPoint = -3
	mostPoint  = 15
)

// integerText returns the text of an integer.
func integerText(i int, v api.Value) string {
	w := value(i, v)
	size := absolute(i, w)
	var out [40]byte
	at := len(out)
	for at == len(out) || !size.zero() {
		q, r := size.divide(wide{0, 10})
		at--
		out[at] = byte('0' + r.lo)
		size = q
	}
	if types[i].signed && w.negative() {
		return "-" + string(out[at:])
	}
	return string(out[at:])
}

// floatText returns the text of a float with so many bits.
func floatText(x float64, bits int) string {
	sign := ""
	if math.Signbit(x) {
		sign = "-"
	}
	switch {
	case x != x:
		return "nan"
	case math.IsInf(x, 0):
		return sign + "inf"
	case x == 0:
		return sign + "0.0"
	}
	mantissa, exponent, _ := strings.Cut(strconv.FormatFloat(math.Abs(x), 'e', -1, bits), "e")
	digits := strings.ReplaceAll(mantissa, ".", "")
	power, _ := strconv.Atoi(exponent)
	return sign + pointed(digits, power+1)
}

// pointed returns the text of 0.digits times 10 to the power.
func pointed(digits string, power int) string {
	switch {
	case power < leastPoint || power > mostPoint:
		return pointed(digits, 1) + "e" + strconv.Itoa(power-1)
	case power <= 0:
		return "0." + strings.Repeat("0", -power) + digits
	case power >= len(digits):
		return digits + strings.Repeat("0", power-len(digits)) + ".0"
	}
	return digits[:power] + "." + digits[power:]
}

// leadingDigits returns the decimal digits at the beginning of a text, and what is behind them.
func leadingDigits(s string) (digits, rest string) {
	at := 0
	for at < len(s) && s[at] >= '0' && s[at] <= '9' {
		at++
	}
	return s[:at], s[at:]
}

func parseInteger(i int, s string) (api.Value, api.Errno) {
	digits, minus := strings.CutPrefix(s, "-")
	if d, rest := leadingDigits(digits); d == "" || rest != "" {
		return api.Value{}, api.ErrForm
	}
	limit := wide{^uint64(0), ^uint64(0)}.shr(128 - types[i].bits)
	switch {
	case types[i].signed && minus:
		limit = wide{0, 1}.shl(types[i].bits - 1)
	case types[i].signed:
		limit = limit.shr(1)
	case minus:
		limit = wide{}
	}
	var size wide
	for _, c := range digits {
		digit := small(int(c - '0'))
		if limit.less(digit) || limit.sub(digit).quotient(small(10)).less(size) {
			return api.Value{}, api.ErrRange
		}
		size = size.mul(small(10)).add(digit)
	}
	if minus {
		size = size.neg()
	}
	return integer(i, size), api.OK
}

func parseFloat(i int, s string) (api.Value, api.Errno) {
	x := 0.0
	switch {
	case s == "nan":
		x = math.NaN()
	case s == "inf":
		x = math.Inf(1)
	case s == "-inf":
		x = math.Inf(-1)
	case !isFloat(s):
		return api.Value{}, api.ErrForm
	default:
		x, _ = strconv.ParseFloat(s, types[i].bits) // beyond the greatest it is infinite, with an error
	}
	if i == f32 {
		return fromSingle(narrow(x)), api.OK
	}
	return fromDouble(x), api.OK
}

// isFloat reports whether a text has the form of a float that is a number.
func isFloat(s string) bool {
	digits, rest := leadingDigits(strings.TrimPrefix(s, "-"))
	if digits == "" {
		return false
	}
	if fraction, ok := strings.CutPrefix(rest, "."); ok {
		digits, rest = leadingDigits(fraction)
		if digits == "" {
			return false
		}
	}
	exponent, ok := strings.CutPrefix(rest, "e")
	if !ok {
		return rest == ""
	}
	if exponent != "" && (exponent[0] == '+' || exponent[0] == '-') {
		exponent = exponent[1:]
	}
	digits, rest = leadingDigits(exponent)
	return digits != "" && rest == ""
}
