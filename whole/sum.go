package whole

import (
	"rafter/api"
	"rafter/limbs"
)

// Neg answers -x.
func Neg(x api.Whole) api.Whole { return signed(!x.Neg, limbs.Trim(x.Mag)) }

// Add answers x + y.
func Add(x, y api.Whole) api.Whole { return join(x, y.Neg, y.Mag) }

// Sub answers x - y.
func Sub(x, y api.Whole) api.Whole { return join(x, !y.Neg, y.Mag) }

// Mul answers x y.
func Mul(x, y api.Whole) api.Whole {
	return signed(x.Neg != y.Neg, limbs.Mul(x.Mag, y.Mag))
}

// Sum answers all of l together, 0 of none.
func Sum(l ...api.Whole) api.Whole {
	var total api.Whole
	for _, x := range l {
		total = Add(total, x)
	}
	return total
}

// join answers x and the number of the sign neg and the magnitude mag together.
func join(x api.Whole, neg bool, mag []uint32) api.Whole {
	if x.Neg == neg {
		return signed(neg, limbs.Add(x.Mag, mag))
	}
	if less, ok := limbs.Sub(x.Mag, mag); ok {
		return signed(x.Neg, less)
	}
	less, _ := limbs.Sub(mag, x.Mag)
	return signed(neg, less)
}
