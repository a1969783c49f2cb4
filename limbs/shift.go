package limbs

import (
	"math/bits"

	"rafter/api"
)

// Left answers a 2^n; ErrArg, if n is below 0; ErrTooBig, if it is above MaxShift.
func Left(a []uint32, n int) ([]uint32, api.Errno) {
	if n < 0 {
		return nil, api.ErrArg
	}
	if n > api.MaxShift {
		return nil, api.ErrTooBig
	}
	noughts := make([]uint32, n/limbBits)
	return cut(append(noughts, moveUp(a, uint(n%limbBits))...)), api.OK
}

// Right answers a / 2^n, rounded down; ErrArg, if n is below 0.
func Right(a []uint32, n int) ([]uint32, api.Errno) {
	if n < 0 {
		return nil, api.ErrArg
	}
	gone := min(n/limbBits, len(a))
	return moveDown(a[gone:], uint(n%limbBits)), api.OK
}

// Bits answers the least k for which a is below 2^k.
func Bits(a []uint32) int {
	a = cut(a)
	if len(a) == 0 {
		return 0
	}
	return limbBits*(len(a)-1) + bits.Len32(a[len(a)-1])
}

// moveUp answers a times 2^shift, with one limb more than a, be it 0 or not; shift is below limbBits.
func moveUp(a []uint32, shift uint) []uint32 {
	out := make([]uint32, len(a)+1)
	var carry uint64
	for i, x := range a {
		moved := uint64(x)<<shift | carry
		out[i] = uint32(moved)
		carry = moved >> limbBits
	}
	out[len(a)] = uint32(carry)
	return out
}

// moveDown answers a / 2^shift, rounded down; shift is below limbBits.
func moveDown(a []uint32, shift uint) []uint32 {
	out := make([]uint32, len(a))
	for i, x := range a {
		both := uint64(limb(a, i+1))<<limbBits | uint64(x)
		out[i] = uint32(both >> shift)
	}
	return cut(out)
}
