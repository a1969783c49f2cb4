package limbs

import "math/bits"

// DivMod answers the greatest natural q with q b at most a, what is left, and true; none, none and false, if b is 0.
func DivMod(a, b []uint32) (q, r []uint32, ok bool) {
	a, b = cut(a), cut(b)
	switch {
	case len(b) == 0:
		return nil, nil, false
	case len(a) < len(b):
		return nil, Trim(a), true
	case len(b) == 1:
		q = Trim(a)
		rest := divideShort(q, b[0])
		return cut(q), Small(uint64(rest)), true
	}
	q, r = divideLong(a, b)
	return q, r, true
}

// divideShort turns a into a / b, rounded down, and answers what is left.
func divideShort(a []uint32, b uint32) uint32 {
	var rest uint64
	for i := len(a) - 1; i >= 0; i-- {
		part := rest<<limbBits | uint64(a[i])
		a[i] = uint32(part / uint64(b))
		rest = part % uint64(b)
	}
	return uint32(rest)
}

// divideLong divides by hand, a limb of the quotient at a time, from the top. b has at least two limbs, a no fewer. Both are moved up until b's top bit is set: only then is the guess of a limb never too great by more than 2.
func divideLong(a, b []uint32) (q, r []uint32) {
	n := len(b)
	shift := uint(bits.LeadingZeros32(b[n-1]))
	over := moveUp(a, shift)
	under := moveUp(b, shift)[:n]
	q = make([]uint32, len(a)-n+1)
	for i := len(q) - 1; i >= 0; i-- {
		part := over[i : i+n+1]
		guess := guessLimb(part, under)
		if takeTimes(part, under, guess) {
			guess--
			addBack(part, under)
		}
		q[i] = guess
	}
	return cut(q), moveDown(over[:n], shift)
}

// guessLimb divides the three upper limbs of part by the two upper ones of under. The answer is the limb of the quotient, or one more.
func guessLimb(part, under []uint32) uint32 {
	n := len(under)
	top, next := uint64(under[n-1]), uint64(under[n-2])
	upper := uint64(part[n])<<limbBits | uint64(part[n-1])
	guess, rest := upper/top, upper%top
	for guess>>limbBits != 0 || guess*next > rest<<limbBits|uint64(part[n-2]) {
		guess--
		rest += top
		if rest>>limbBits != 0 {
			break
		}
	}
	return uint32(guess)
}

// takeTimes takes under times x away from part, and says whether that was more than part: then part has gone once round.
func takeTimes(part, under []uint32, x uint32) bool {
	var carry uint64
	var borrow int64
	for i := range part {
		times := uint64(x)*uint64(limb(under, i)) + carry
		carry = times >> limbBits
		rest := int64(part[i]) - int64(uint32(times)) - borrow
		part[i] = uint32(rest)
		borrow = rest >> limbBits & 1
	}
	return borrow != 0
}

// addBack adds under to part, which takeTimes has left below 0; what is carried out on top ends that.
func addBack(part, under []uint32) {
	var carry uint64
	for i := range part {
		sum := uint64(part[i]) + uint64(limb(under, i)) + carry
		part[i] = uint32(sum)
		carry = sum >> limbBits
	}
}
