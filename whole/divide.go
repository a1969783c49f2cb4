package whole

import (
	"rafter/api"
	"rafter/limbs"
)

// DivMod answers the one q and r with x = q y + r and r from 0 to y's magnitude less 1, and true; 0, 0 and false, if y is 0.
func DivMod(x, y api.Whole) (q, r api.Whole, ok bool) {
	times, left, ok := limbs.DivMod(x.Mag, y.Mag)
	if !ok {
		return api.Whole{}, api.Whole{}, false
	}
	if x.Neg && len(left) > 0 {
		// The magnitudes leave -left of x: once more y's magnitude brings it to 0 or above.
		times = limbs.Add(times, limbs.Small(1))
		left, _ = limbs.Sub(y.Mag, left)
	}
	return signed(x.Neg != y.Neg, times), signed(false, left), true
}

// Gcd answers the greatest common divisor of the magnitudes, never below 0.
func Gcd(x, y api.Whole) api.Whole { return signed(false, limbs.Gcd(x.Mag, y.Mag)) }
