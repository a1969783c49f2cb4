package limbs

// Add answers a + b.
func Add(a, b []uint32) []uint32 {
	a, b = cut(a), cut(b)
	n := max(len(a), len(b))
	out := make([]uint32, n+1)
	var carry uint64
	for i := range n {
		sum := uint64(limb(a, i)) + uint64(limb(b, i)) + carry
		out[i] = uint32(sum)
		carry = sum >> limbBits
	}
	out[n] = uint32(carry)
	return cut(out)
}

// Sub answers a - b and true; none and false, if b is above a.
func Sub(a, b []uint32) ([]uint32, bool) {
	if Cmp(a, b) < 0 {
		return nil, false
	}
	a, b = cut(a), cut(b)
	out := make([]uint32, len(a))
	var borrow int64
	for i := range out {
		rest := int64(a[i]) - int64(limb(b, i)) - borrow
		out[i] = uint32(rest)
		borrow = rest >> limbBits & 1
	}
	return cut(out), true
}

// Mul answers a b.
func Mul(a, b []uint32) []uint32 {
	a, b = cut(a), cut(b)
	out := make([]uint32, len(a)+len(b))
	for i, x := range a {
		out[i+len(b)] = addTimes(out[i:i+len(b)], b, x)
	}
	return cut(out)
}

// addTimes adds b times x to out, which is as long as b, and answers what is carried out of it. The sum never leaves 64 bits: the greatest product and two limbs more are 2^64 - 1.
func addTimes(out, b []uint32, x uint32) uint32 {
	var carry uint64
	for i, y := range b {
		sum := uint64(x)*uint64(y) + uint64(out[i]) + carry
		out[i] = uint32(sum)
		carry = sum >> limbBits
	}
	return uint32(carry)
}
