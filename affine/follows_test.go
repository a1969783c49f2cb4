package affine_test

import (
	"fmt"
	"math/big"
	"slices"
	"strings"
	"testing"

	"rafter/affine"
	"rafter/api"
)

func TestPrintedIsRead(t *testing.T) { // P5.7, W13
	s := &stream{21}
	for n := range 2000 {
		vars := s.names(n % 17)
		given := s.canonical(len(vars) + 1)
		text, e := affine.Print(given, vars)
		if e != api.OK || !affine.Canonical(given) {
			t.Fatalf("P5.7: %v over %q: %v", given, vars, e)
		}
		got, e, p := affine.Equation(text, vars)
		if e != api.OK {
			t.Fatalf("P5.7: Equation(%q): %v at %v", text, e, p)
		}
		same(t, fmt.Sprintf("P5.7: %q", text), got, given)
	}
	long := []api.Whole{wholeOf(most), row("-1")[0], wholeOf(new(big.Int).Neg(most))}
	text, _ := affine.Print(long, xy)
	got, e, _ := affine.Equation(text, xy)
	if e != api.OK {
		t.Fatal("P5.7: numbers of MaxLimbs limbs:", e)
	}
	same(t, "P5.7: numbers of MaxLimbs limbs", got, long)
}

// small answers all rows of count numbers from -most to most.
func small(count, most int) [][]api.Whole {
	all := [][]api.Whole{nil}
	for range count {
		var longer [][]api.Whole
		for _, l := range all {
			for x := -most; x <= most; x++ {
				longer = append(longer, append(slices.Clone(l), wholeOf(big.NewInt(int64(x)))))
			}
		}
		all = longer
	}
	return all
}

// metBy answers which points of a grid meet a row of two variables, as a text. Each line of small factors has two points of the grid, which no other line has.
func metBy(l []api.Whole) string {
	var out strings.Builder
	times := func(x api.Whole, r *big.Rat) *big.Rat {
		return new(big.Rat).Mul(new(big.Rat).SetInt(toBig(x)), r)
	}
	for i := int64(-8); i <= 8; i++ {
		for j := int64(-8); j <= 8; j++ {
			sum := new(big.Rat).Add(times(l[0], big.NewRat(i, 2)), times(l[1], big.NewRat(j, 2)))
			out.WriteString(fmt.Sprint(sum.Cmp(times(l[2], big.NewRat(1, 1))) == 0))
		}
	}
	return out.String()
}

func TestCanonicalIsOne(t *testing.T) { // P5.7: canonical rows that are met by the same points are the same
	said := map[string]string{}
	for _, l := range small(3, 2) {
		if !affine.Canonical(l) {
			continue
		}
		points := metBy(l)
		if other, ok := said[points]; ok {
			t.Errorf("P5.7: %s and %s are canonical, and say the same", other, say(l))
		}
		said[points] = say(l)
	}
	if len(said) != 50 {
		t.Errorf("P5.7: %d canonical rows, want 50: half of the 98 that have no divisor in common, and 0 = 0", len(said))
	}
}

func TestCanonSaysTheSame(t *testing.T) { // P5.2, P5.7: and each row has its canonical one
	for _, l := range small(3, 2) {
		var given []api.Ratio
		for _, x := range l {
			given = append(given, api.Ratio{Num: x, Den: []uint32{3}})
		}
		got, e := affine.Canon(given)
		if e != api.OK || metBy(got) != metBy(l) {
			t.Errorf("P5.2: Canon(%s) = %s, %v", say(l), say(got), e)
		}
	}
}

func TestPutIsThere(t *testing.T) { // P5.8
	s := &stream{22}
	for n := range 2000 {
		count := 1 + n%9
		given, f, before, v := s.wholes(count+1, n%9), s.wholes(count+1, n%9), s.wholes(count, n%9), s.below(count)
		after := slices.Clone(before)
		value, e1 := affine.Value(f, before)
		after[v] = value
		put, e2 := affine.Put(given, v, f)
		one, e3 := affine.Left(put, before)
		two, e4 := affine.Left(given, after)
		if e1+e2+e3+e4 != api.OK || !equalWhole(one, two) {
			t.Fatalf("P5.8: row %v, variable %d, form %v, state %v: %v and %v", given, v, f, before, one, two)
		}
	}
}

func TestTokensAlone(t *testing.T) { // P5.9, W13: other signs, blanks and comments
	other := []*strings.Replacer{
		strings.NewReplacer("-", "\u2212"), strings.NewReplacer("*", "\u00b7"), strings.NewReplacer("*", "\u00d7"), strings.NewReplacer("/", "\u00f7"),
		strings.NewReplacer("-", "\u2212", "*", "\u00d7", "/", "\u00f7", " ", "\u3000 # - * / =\n"), strings.NewReplacer(" ", "\n\t"), strings.NewReplacer(" ", " # \u00e9 = 1\n"),
	}
	s := &stream{23}
	for range 500 {
		words := s.equation()
		if s.below(4) == 0 {
			words = s.spoilt(words)
		}
		plain := strings.Join(words, " ")
		want, wantE, _ := affine.Equation(plain, few)
		for _, r := range other {
			got, e, p := affine.Equation(r.Replace(plain), few)
			if e != wantE || !equal(got, want) {
				t.Fatalf("P5.9: %q: %v, %v at %v; of %q: %v, %v", r.Replace(plain), got, e, p, plain, want, wantE)
			}
		}
	}
}

// sum is one side of an equation: terms with their signs.
type sum []string

// String writes a side; a plus of the first term is left out.
func (s sum) String() string { return strings.TrimPrefix(strings.Join(s, " "), "+ ") }

// turn answers a term with its sign turned.
func turn(term string) string {
	if rest, ok := strings.CutPrefix(term, "-"); ok {
		return "+" + rest
	}
	return "-" + strings.TrimPrefix(term, "+")
}

// times answers a side multiplied by n.
func (s sum) times(n string) sum {
	var out sum
	for _, term := range s {
		if n[0] == '-' {
			term = turn(term)
		}
		// Each term is written as a sign, a blank, a coefficient over 1, and a name or none.
		out = append(out, strings.Replace(term, "/1", "/"+strings.TrimPrefix(n, "-"), 1))
	}
	return out
}

// side answers some terms.
func (s *stream) side() sum {
	var out sum
	for range 1 + s.below(4) {
		out = append(out, s.pick("+ ", "- ")+s.pick("0", "1", "2", "3", "60", "77")+"/1"+s.pick("", "", " x", "*y", "*\u03b1\u2081"))
	}
	return out
}

func TestSidesMoved(t *testing.T) { // P5.9
	s := &stream{24}
	for range 1000 {
		left, right := s.side(), s.side()
		plain := left.String() + " = " + right.String()
		want, e, _ := affine.Equation(plain, few)
		if e != api.OK {
			t.Fatalf("P5.9: %q: %v", plain, e)
		}
		n := s.pick("2", "7", "-1", "-6", "4294967296") // over n, or over -n
		moved := append(slices.Clone(right), turn(left[0]))
		for _, text := range []string{
			right.String() + " = " + left.String(),
			left.times(n).String() + " = " + right.times(n).String(),
			append(sum{"+ 0"}, left[1:]...).String() + " = " + moved.String(),
			strings.Join(slices.Sorted(slices.Values(left)), " ") + " = " + right.String(),
		} {
			got, e, p := affine.Equation(text, few)
			if e != api.OK {
				t.Fatalf("P5.9: %q: %v at %v", text, e, p)
			}
			same(t, fmt.Sprintf("P5.9: %q as %q", plain, text), got, want)
		}
	}
}
