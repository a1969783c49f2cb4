package ratio

import (
	"strings"

	"rafter/api"
	"rafter/limbs"
	"rafter/whole"
)

// slash stands between a numerator and its denominator.
const slash = "/"

// Parse answers the number of a text: a whole number, or one and a natural behind the first slash. ErrTooBig, if s has more than 2 MaxDigits bytes; else the error of the first part that has one; ErrDivide, if the natural is 0.
func Parse(s string) (api.Ratio, api.Errno) {
	if len(s) > 2*api.MaxDigits {
		return api.Ratio{}, api.ErrTooBig
	}
	over, under, found := strings.Cut(s, slash)
	num, e := whole.Parse(over)
	if e != api.OK {
		return api.Ratio{}, e
	}
	if !found {
		return From(num), api.OK
	}
	den, e := limbs.Parse(under)
	if e != api.OK {
		return api.Ratio{}, e
	}
	return Of(num, api.Whole{Mag: den})
}

// Text answers r's numerator, and behind a slash its denominator, if that is not 1; both in lowest terms.
func Text(r api.Ratio) string {
	low := Trim(r)
	num := whole.Text(low.Num)
	if limbs.Bits(low.Den) == 1 {
		return num
	}
	return num + slash + limbs.Text(low.Den)
}
