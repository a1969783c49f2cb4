// Package limbs is layer 1: natural numbers on limbs of 32 bits, the lowest one first. See shared/doc/01-limbs.md.
package limbs

import (
	"cmp"
	"slices"
)

// limbBits is how many bits a limb has.
const limbBits = 32

// Trim answers a's value as a list of its own, without limbs 0 on top.
func Trim(a []uint32) []uint32 { return slices.Clone(cut(a)) }

// Cmp answers -1, 0 or 1, as a is below b, the same, above.
func Cmp(a, b []uint32) int {
	a, b = cut(a), cut(b)
	if len(a) != len(b) {
		return cmp.Compare(len(a), len(b))
	}
	for i := len(a) - 1; i >= 0; i-- {
		if a[i] != b[i] {
			return cmp.Compare(a[i], b[i])
		}
	}
	return 0
}

// Small answers n.
func Small(n uint64) []uint32 {
	return cut([]uint32{uint32(n), uint32(n >> limbBits)})
}

// Uint answers a and true; 0 and false, if a is 2^64 or more.
func Uint(a []uint32) (uint64, bool) {
	a = cut(a)
	if len(a) > 2 {
		return 0, false
	}
	return uint64(limb(a, 1))<<limbBits | uint64(limb(a, 0)), true
}

// cut answers a without the limbs 0 on top. It is a view of a: what is handed out to a caller is copied first, unless a was made for the answer.
func cut(a []uint32) []uint32 {
	n := len(a)
	for n > 0 && a[n-1] == 0 {
		n--
	}
	return a[:n]
}

// limb answers a's limb i; above its top they are all 0.
func limb(a []uint32, i int) uint32 {
	if i < len(a) {
		return a[i]
	}
	return 0
}
