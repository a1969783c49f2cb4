package whole

import (
	"unicode/utf8"

	"rafter/api"
	"rafter/limbs"
)

// The two runes that stand for a minus: the one of keyboards, and the one of print.
const (
	hyphen rune = '-'
	minus  rune = '\u2212'
)

// Parse answers the number of a minus, or none, and decimal digits behind it; the error of limbs.Parse, if what is behind the minus is none.
func Parse(s string) (api.Whole, api.Errno) {
	neg, digits := splitMinus(s)
	mag, e := limbs.Parse(digits)
	if e != api.OK {
		return api.Whole{}, e
	}
	return signed(neg, mag), api.OK
}

// Text answers x's decimal digits, a minus ahead of them if x is below 0.
func Text(x api.Whole) string {
	if Sign(x) < 0 {
		return string(hyphen) + limbs.Text(x.Mag)
	}
	return limbs.Text(x.Mag)
}

// splitMinus says whether s begins with a minus, and answers what is behind it.
func splitMinus(s string) (neg bool, rest string) {
	first, size := utf8.DecodeRuneInString(s)
	switch first {
	case hyphen, minus:
		return true, s[size:]
	}
	return false, s
}
