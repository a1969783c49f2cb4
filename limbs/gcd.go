package limbs

// windowBits is how much of the greater number is looked at ahead. With 30 bits a factor times a limb stays below 2^62, so that the sum of two such products and a carry stays in 64 bits.
const windowBits = 30

// factors says how two numbers x and y become others: a x + b y, and c x + d y.
type factors struct{ a, b, c, d int64 }

// Gcd answers the greatest natural that divides both; of a and 0 it is a.
func Gcd(a, b []uint32) []uint32 {
	x, y := Trim(a), Trim(b)
	if Cmp(x, y) < 0 {
		x, y = y, x
	}
	for len(y) > 2 {
		x, y = shrink(x, y)
	}
	_, rest, ok := DivMod(x, y)
	if !ok {
		return x
	}
	m, _ := Uint(y)
	n, _ := Uint(rest)
	return Small(gcdShort(m, n))
}

// gcdShort is Gcd of numbers that fit in 64 bits.
func gcdShort(m, n uint64) uint64 {
	for n != 0 {
		m, n = n, m%n
	}
	return m
}

// shrink makes at least one step of Euclid's, and as many at once as the upper bits alone can tell (Lehmer's way): one division of long numbers for each quotient would cost much more. x is at least y, and stays so.
func shrink(x, y []uint32) ([]uint32, []uint32) {
	low := Bits(x) - windowBits
	f := lookAhead(int64(window(x, low)), int64(window(y, low)))
	if f.b == 0 {
		_, rest, _ := DivMod(x, y)
		return y, rest
	}
	return combine(f.a, x, f.b, y), combine(f.c, x, f.d, y)
}

// window answers the windowBits bits of a from bit low on.
func window(a []uint32, low int) uint32 {
	i, shift := low/limbBits, uint(low%limbBits)
	both := uint64(limb(a, i+1))<<limbBits | uint64(limb(a, i))
	return uint32(both>>shift) & (1<<windowBits - 1)
}

// lookAhead makes Euclid's steps on the upper bits x and y, as long as the quotient is the same whatever the lower bits are: x + a over y + c and x + b over y + d are the two bounds of what the long numbers' quotient can be.
func lookAhead(x, y int64) factors {
	f := factors{a: 1, d: 1}
	for y+f.c != 0 && y+f.d != 0 {
		q := (x + f.a) / (y + f.c)
		if q != (x+f.b)/(y+f.d) {
			break
		}
		f = factors{f.c, f.d, f.a - q*f.c, f.b - q*f.d}
		x, y = y, x-q*y
	}
	return f
}

// combine answers p x + q y, which is known not to be below 0 and no longer than x; y is no longer than x, p and q have not the same sign.
func combine(p int64, x []uint32, q int64, y []uint32) []uint32 {
	out := make([]uint32, len(x))
	var carry int64
	for i := range x {
		sum := p*int64(x[i]) + q*int64(limb(y, i)) + carry
		out[i] = uint32(sum)
		carry = sum >> limbBits
	}
	return cut(out)
}
