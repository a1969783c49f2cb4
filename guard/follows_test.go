package guard_test

import (
	"math/big"
	"testing"

	"rafter/affine"
	"rafter/api"
	"rafter/guard"
	"rafter/lang"
	"rafter/whole"
)

func TestValueIsOfForm(t *testing.T) { // P9.5
	s := &stream{7}
	met := map[api.Errno]int{}
	for n := range 8000 {
		vars := many[:1+n%5]
		text := s.tree(n%6, vars).short()
		if len(text) > api.MaxText {
			continue
		}
		f, ok, _, _ := guard.Affine(text, vars)
		if !ok {
			continue
		}
		state := s.wholes(len(vars), 40)
		if n%4 == 0 { // so that some values, or parts, are too big
			state[s.below(len(state))] = wholeOf(power(32*api.MaxWide, -1))
		}
		got, e := lang.Value(text, vars, state)
		met[e]++
		if e == api.ErrTooBig {
			continue
		}
		want, _ := affine.Value(f, state)
		if e != api.OK || whole.Cmp(got, want) != 0 {
			t.Fatalf("P9.5: %q at %v: %v, %v; of its form %v", text, state, got, e, want)
		}
	}
	if met[api.OK] < 1500 || met[api.ErrTooBig] < 50 {
		t.Errorf("too few of a kind were drawn: %v", met)
	}
}

func TestFormsNeverDivide(t *testing.T) { // P9.5: where a divisor may be 0 there is no form
	zero := []api.Whole{{}, {}}
	for _, text := range []string{"1/x", "1/(x-x)", "x/(y-y)", "1%y", "1/0", "x*0/(1-1)", "0*(1/(2-2))", "(x-x)/(x-x)", "1/(7/8)", "1%(6%3)"} {
		if _, e := lang.Value(text, xy, zero); e != api.ErrDivide {
			t.Fatalf("P8.8: Value(%q): %v", text, e)
		}
		sameForm(t, "P9.5", text, xy, nil)
	}
}

func TestRowIsMet(t *testing.T) { // P9.6
	s := &stream{8}
	met := map[bool]int{}
	for n := range 8000 {
		left, right := s.tree(n%4, xy).short(), s.tree(n%3, xy).short()
		r, ok, _, e, _ := guard.Cond(left+s.pick("=", "!=")+right, xy)
		if e != api.OK {
			t.Fatalf("P9.3: %q and %q: %v", left, right, e)
		}
		if !ok {
			continue
		}
		if !affine.Canonical(r) {
			t.Fatalf("P9.3: %q = %q: %s is not canonical", left, right, say(r))
		}
		for range 10 {
			state := s.wholes(2, n%2)
			a, e1 := lang.Value(left, xy, state)
			b, e2 := lang.Value(right, xy, state)
			if e1 != api.OK || e2 != api.OK {
				continue
			}
			gap, _ := affine.Left(r, state)
			same := whole.Cmp(a, b) == 0
			met[same]++
			if same != (whole.Sign(gap) == 0) {
				t.Fatalf("P9.6: %q is %v, %q is %v at %v; the row %s", left, a, right, b, state, say(r))
			}
		}
	}
	if met[true] < 500 || met[false] < 5000 {
		t.Errorf("too few of a kind were drawn: %v", met)
	}
}

func TestBracketsAndOrder(t *testing.T) { // P9.7
	s := &stream{9}
	for n := range 4000 {
		x := s.tree(n%6, xy)
		text := x.short()
		further := s.turned(x).text(func() bool { return s.below(2) == 0 })
		if len(text) > api.MaxText || len(further) > api.MaxText {
			continue
		}
		f, ok, _, _ := guard.Affine(text, xy)
		g, also, e, _ := guard.Affine("("+further+")", xy)
		if e != api.OK || ok != also || say(f) != say(g) {
			t.Fatalf("P9.7: %q: %s, %v; %q: %s, %v, %v", text, say(f), ok, further, say(g), also, e)
		}
	}
}

func TestSumsAndProducts(t *testing.T) { // P9.7
	s := &stream{10}
	for n := range 4000 {
		a, b := s.tree(n%5, xy).short(), s.tree(n%4, xy).short()
		k := s.pick("0", "1", "7", "4294967295", most.String())
		if len(a)+len(b)+len(k) > api.MaxText-9 {
			continue
		}
		f, okA, _, _ := guard.Affine(a, xy)
		g, okB, _, _ := guard.Affine(b, xy)
		var sum, times []*big.Int
		for i := range f {
			factor, _ := new(big.Int).SetString(k, 10)
			times = append(times, factor.Mul(factor, toBig(f[i])))
			if okB {
				sum = append(sum, new(big.Int).Add(toBig(f[i]), toBig(g[i])))
			}
		}
		if okA != (len(times) > 0) {
			t.Fatalf("P9.2: %q: %v, %v", a, f, okA)
		}
		sameForm(t, "P9.7", "("+a+") + ("+b+")", xy, sum)
		sameForm(t, "P9.7", k+" * ("+a+")", xy, times)
		sameForm(t, "P9.7", "("+a+") * "+k, xy, times)
	}
}
