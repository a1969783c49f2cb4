package limbs_test

import (
	"fmt"
	"math/big"
	"testing"

	"rafter/limbs"
)

func TestTrim(t *testing.T) { // P1.1
	for _, x := range []struct{ a, want nat }{
		{nat{5, 0, 0}, nat{5}}, {nat{0, 0}, nil}, {nil, nil}, {nat{}, nil}, {nat{0}, nil},
		{nat{0, 5, 0}, nat{0, 5}}, {nat{0, 0, 1}, nat{0, 0, 1}}, {nat{1, 0, top}, nat{1, 0, top}}, {make(nat, 1000), nil},
	} {
		same(t, fmt.Sprint("P1.1: Trim ", x.a), limbs.Trim(x.a), x.want)
	}
	for _, a := range below(4, edges) {
		value(t, fmt.Sprint("P1.1: Trim ", a), limbs.Trim(a), toBig(a))
	}
}

func TestCmp(t *testing.T) { // P1.1
	for _, x := range []struct {
		a, b nat
		want int
	}{
		{nil, nil, 0}, {nat{}, nil, 0}, {nat{0, 0}, nil, 0}, {nil, nat{0}, 0}, {nat{5, 0}, nat{5}, 0}, {nat{5}, nat{5, 0, 0}, 0},
		{nil, nat{1}, -1}, {nat{1}, nat{0, 0}, 1}, {nat{0, 1}, nat{top}, 1}, {nat{top, 1}, nat{0, 2}, -1}, {nat{2, 1}, nat{1, 1}, 1},
		{nat{9, 9, 9}, nat{9, 9, 9}, 0}, {nat{1, 9, 9}, nat{2, 9, 9}, -1}, {nat{9, 0, 0, 0}, nat{0, 1}, -1},
		{nat{1 << 31}, nat{1<<31 - 1}, 1}, {nat{0, top}, nat{0, 1}, 1},
	} {
		if got := limbs.Cmp(x.a, x.b); got != x.want {
			t.Errorf("P1.1: Cmp(%v, %v) = %d, want %d", x.a, x.b, got, x.want)
		}
	}
	all := below(3, edges)
	for _, a := range all {
		for _, b := range all {
			if got, want := limbs.Cmp(a, b), toBig(a).Cmp(toBig(b)); got != want {
				t.Fatalf("P1.1: Cmp(%v, %v) = %d, want %d", a, b, got, want)
			}
		}
	}
}

// pairs answers pairs of lists: all the short ones of edges, and some long ones.
func pairs() [][2]nat {
	var out [][2]nat
	short := below(3, edges)
	for _, a := range short {
		for _, b := range short {
			out = append(out, [2]nat{a, b})
		}
	}
	s := &stream{1}
	for range 3000 {
		out = append(out, [2]nat{s.upTo(40), s.upTo(40)})
	}
	return out
}

// full answers n limbs, all of them the greatest.
func full(n int) nat {
	a := make(nat, n)
	for i := range a {
		a[i] = top
	}
	return a
}

func TestAddMul(t *testing.T) { // P1.2
	same(t, "P1.2: Add", limbs.Add(nat{top}, nat{1}), nat{0, 1})
	same(t, "P1.2: Add", limbs.Add(nat{1}, nat{top, top, 0}), nat{0, 0, 1})
	same(t, "P1.2: Add", limbs.Add(nat{0, 0}, nil), nil)
	same(t, "P1.2: Mul", limbs.Mul(nat{top}, nat{top}), nat{1, top - 1})
	same(t, "P1.2: Mul", limbs.Mul(nat{0, 0}, nat{7, 7}), nil)
	same(t, "P1.2: Mul", limbs.Mul(nil, nat{7}), nil)
	for _, x := range pairs() {
		a, b := toBig(x[0]), toBig(x[1])
		value(t, fmt.Sprint("P1.2: Add ", x), limbs.Add(x[0], x[1]), new(big.Int).Add(a, b))
		value(t, fmt.Sprint("P1.2: Mul ", x), limbs.Mul(x[0], x[1]), new(big.Int).Mul(a, b))
	}
}

func TestLongCarries(t *testing.T) { // P1.2
	const n = 300
	one := append(make(nat, n), 1)
	same(t, "P1.2: a carry over many limbs", limbs.Add(full(n), nat{1}), one)
	same(t, "P1.2: a carry over many limbs", limbs.Add(nat{1}, full(n)), one)
	same(t, "P1.2: a carry over many limbs", limbs.Add(full(n), full(n)), append(append(nat{top - 1}, full(n-1)...), 1))
	less, ok := limbs.Sub(one, nat{1})
	if !ok {
		t.Fatal("P1.2: Sub says false")
	}
	same(t, "P1.2: a borrow over many limbs", less, full(n))
	square := new(big.Int).Mul(toBig(full(n)), toBig(full(n)))
	value(t, "P1.2: Mul of the greatest limbs", limbs.Mul(full(n), full(n)), square)
	value(t, "P1.2: Mul of one list by itself", limbs.Mul(one, one), new(big.Int).Mul(toBig(one), toBig(one)))
}

func TestSub(t *testing.T) { // P1.2
	for _, x := range []struct {
		a, b, want nat
		ok         bool
	}{
		{nat{0, 1}, nat{1}, nat{top}, true}, {nat{1}, nat{2}, nil, false}, {nil, nil, nil, true}, {nat{0}, nat{0, 0}, nil, true},
		{nil, nat{1}, nil, false}, {nat{7}, nil, nat{7}, true}, {nat{7, 7}, nat{7, 7, 0}, nil, true}, {nat{7, 0}, nat{0, 1}, nil, false},
		{nat{5, 7}, nat{4, 7}, nat{1}, true}, {nat{4, 7}, nat{5, 7}, nil, false}, {nat{top, 7, 0}, nat{0, 8}, nil, false},
	} {
		got, ok := limbs.Sub(x.a, x.b)
		if ok != x.ok {
			t.Errorf("P1.2: Sub(%v, %v) says %v", x.a, x.b, ok)
		}
		same(t, fmt.Sprint("P1.2: Sub ", x.a, x.b), got, x.want)
	}
	for _, x := range pairs() {
		got, ok := limbs.Sub(x[0], x[1])
		want := new(big.Int).Sub(toBig(x[0]), toBig(x[1]))
		if ok != (want.Sign() >= 0) {
			t.Fatalf("P1.2: Sub(%v, %v) says %v", x[0], x[1], ok)
		}
		if !ok {
			want.SetInt64(0)
		}
		value(t, fmt.Sprint("P1.2: Sub ", x), got, want)
	}
}

func TestSmallUint(t *testing.T) { // P1.6
	for _, x := range []struct {
		n uint64
		a nat
	}{
		{0, nil}, {1, nat{1}}, {1<<32 - 1, nat{top}}, {1 << 32, nat{0, 1}}, {1<<32 + 1, nat{1, 1}}, {1<<63 - 1, nat{top, 1<<31 - 1}},
		{1 << 63, nat{0, 1 << 31}}, {1<<64 - 1, nat{top, top}}, {0x123456789abcdef0, nat{0x9abcdef0, 0x12345678}},
	} {
		same(t, fmt.Sprint("P1.6: Small ", x.n), limbs.Small(x.n), x.a)
		for k := range 4 {
			if n, ok := limbs.Uint(padded(x.a, k)); n != x.n || !ok {
				t.Errorf("P1.6: Uint(%v) = %d, %v", padded(x.a, k), n, ok)
			}
		}
	}
	for _, a := range []nat{{0, 0, 1}, {1, 0, 1, 0}, {top, top, top}, {5, 0, 0, 1}, full(100), {0, 0, 1 << 31}} {
		if n, ok := limbs.Uint(a); n != 0 || ok {
			t.Errorf("P1.6: Uint(%v) = %d, %v, though it is 2^64 or more", a, n, ok)
		}
	}
}
