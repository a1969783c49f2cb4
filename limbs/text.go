package limbs

import "rafter/api"

// Nine decimal digits are the most that fit in a limb, so texts are read and written nine at a time.
const (
	groupDigits = 9
	groupScale  = 1000000000
)

// Parse answers the natural of the decimal digits s; ErrTooBig, if it has more than MaxDigits bytes; ErrDigit, if it has none, or one that is no digit.
func Parse(s string) ([]uint32, api.Errno) {
	if len(s) > api.MaxDigits {
		return nil, api.ErrTooBig
	}
	if s == "" {
		return nil, api.ErrDigit
	}
	var out []uint32
	group, scale := uint32(0), uint32(1)
	for _, digit := range s {
		if digit < '0' || digit > '9' {
			return nil, api.ErrDigit
		}
		group = 10*group + uint32(digit-'0')
		scale *= 10
		if scale == groupScale {
			out = timesPlus(out, scale, group)
			group, scale = 0, 1
		}
	}
	return timesPlus(out, scale, group), api.OK
}

// Text answers a's decimal digits, without noughts ahead.
func Text(a []uint32) string {
	rest := Trim(a)
	if len(rest) == 0 {
		return "0"
	}
	// A limb is less than ten digits, and the last group may write up to eight noughts ahead.
	digits := make([]byte, 10*len(rest)+groupDigits)
	at := len(digits)
	for len(rest) > 0 {
		group := divideShort(rest, groupScale)
		rest = cut(rest)
		for range groupDigits {
			at--
			digits[at] = byte('0' + group%10)
			group /= 10
		}
	}
	for digits[at] == '0' {
		at++
	}
	return string(digits[at:])
}

// timesPlus answers a scale + more, in a's own memory where it has room.
func timesPlus(a []uint32, scale, more uint32) []uint32 {
	carry := uint64(more)
	for i, x := range a {
		sum := uint64(x)*uint64(scale) + carry
		a[i] = uint32(sum)
		carry = sum >> limbBits
	}
	if carry != 0 {
		a = append(a, uint32(carry))
	}
	return a
}
