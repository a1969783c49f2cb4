package lang_test

import (
	"math/big"
	"strings"
	"testing"

	"rafter/api"
	"rafter/lang"
)

func TestExprs(t *testing.T) { // P8.6, P8.7, and the chapter's examples
	for text, want := range map[string]string{
		"1-(2-x)*-(-y)": "1 - (2 - x) * --y", "((x))*(2*3)": "x * (2 * 3)", "(x/2)%3-(1)": "x / 2 % 3 - 1",
		"x": "x", " ( ( y ) ) # so": "y", "007": "7", "000": "0", "-0": "-0", "- - -x": "---x", "-(-(-(x)))": "---x",
		"x-y-1": "x - y - 1", "(x-y)-1": "x - y - 1", "x-(y-1)": "x - (y - 1)", "x+(y+1)": "x + (y + 1)", "x+(y-1)": "x + (y - 1)", "x-(y*1)": "x - y * 1", "(x*y)-1": "x * y - 1",
		"x*y/2": "x * y / 2", "x*(y/2)": "x * (y / 2)", "x%(y%2)": "x % (y % 2)", "(x/y)%2": "x / y % 2", "(x+y)*2": "(x + y) * 2", "2*(x+y)": "2 * (x + y)", "(x-1)%(y-1)": "(x - 1) % (y - 1)",
		"-(x*y)": "-(x * y)", "-x*y": "-x * y", "(-x)*y": "-x * y", "x*-y": "x * -y", "x*(-y)": "x * -y", "-(x+1)": "-(x + 1)", "-(-(x+1))": "--(x + 1)", "-(x%2)": "-(x % 2)", "x-(-y)": "x - -y", "x+-y": "x + -y", "-x+y": "-x + y", "(-x)+y": "-x + y", "-(x)-(-(y))": "-x - -y",
		"x\u00b72\u2212y\u00f73\u00d74": "x * 2 - y / 3 * 4",
	} {
		got, e, at := lang.Expr(text, []string{"x", "y"})
		if e != api.OK || got != want || at != (api.Place{}) {
			t.Errorf("P8.7: Expr(%q) = %q, %v at %v; want %q", text, got, e, at, want)
		}
	}
}

// join answers tokens with blanks between, and with other signs.
func (s *stream) join(l []string) string {
	text, _ := s.lay(plainWords(l...), s.below(2) == 0)
	return text
}

func TestDrawnExprs(t *testing.T) { // P8.1, P8.6, P8.7
	s := &stream{84}
	for n := range 6000 {
		x := s.tree(n%6, few)
		text := s.join(s.tokens(x))
		if len(text) > api.MaxText {
			continue
		}
		got, e, at := lang.Expr(text, few)
		if e != api.OK || got != x.short() || at != (api.Place{}) {
			t.Fatalf("P8.7: Expr(%q) = %q, %v at %v; want %q", text, got, e, at, x.short())
		}
		if again, e, _ := lang.Expr(got, few); e != api.OK || again != got {
			t.Fatalf("P8.9: Expr(%q) = %q, %v", got, again, e)
		}
		noneToSpare(t, got)
	}
}

// noneToSpare fails the test if an expression that was written says the same without one of its pairs of brackets.
func noneToSpare(t *testing.T, text string) {
	t.Helper()
	var open []int
	for i, c := range text {
		switch c {
		case '(':
			open = append(open, i)
		case ')':
			from := open[len(open)-1]
			open = open[:len(open)-1]
			less := text[:from] + text[from+1:i] + text[i+1:]
			if got, e, _ := lang.Expr(less, few); e == api.OK && got == text {
				t.Fatalf("P8.6: %q says the same as %q", less, text)
			}
		}
	}
}

func TestExprRefused(t *testing.T) { // P8.7
	vars := []string{"x", "any"}
	for _, x := range []struct {
		text  string
		e     api.Errno
		bytes int
	}{
		{"", api.ErrSyntax, 0}, {"z", api.ErrUnknown, 0}, {"any", api.ErrSyntax, 0}, {"x + or", api.ErrSyntax, 4}, {"x y", api.ErrSyntax, 2}, {"x;", api.ErrSyntax, 1}, {"x = x", api.ErrSyntax, 2}, {"(x", api.ErrSyntax, 2}, {"x)", api.ErrSyntax, 1}, {"x <", api.ErrSign, 2}, {"z <", api.ErrSign, 2}, {"x +", api.ErrSyntax, 3}, {"\u2212\u2212", api.ErrSyntax, 6},
		{strings.Repeat("(", api.MaxNest+1), api.ErrDeep, api.MaxNest}, {strings.Repeat("(", api.MaxNest) + "z", api.ErrUnknown, api.MaxNest}, {"x" + strings.Repeat("(", api.MaxNest+1), api.ErrSyntax, 1}, {"x\u00b0", api.ErrUnknown, 0}, {"x := 1", api.ErrSyntax, 2},
	} {
		got, e, at := lang.Expr(x.text, vars)
		if got != "" || e != x.e || at != placeOf(x.text, x.bytes) {
			t.Errorf("P8.7: Expr(%q) = %q, %v at %v; want %v at byte %d", x.text, got, e, at, x.e, x.bytes)
		}
		if v, e := lang.Value(x.text, vars, state("1 2")); e != x.e || v.Neg || len(v.Mag) > 0 {
			t.Errorf("P8.8: Value(%q) = %v, %v; want %v", x.text, v, e, x.e)
		}
		if _, e := lang.Value(x.text, vars, nil); e != x.e {
			t.Errorf("P8.8: Value(%q) without a state: %v; want %v", x.text, e, x.e)
		}
	}
}

func TestExprSpoilt(t *testing.T) { // P8.7, P8.8
	s := &stream{85}
	for n := range 4000 {
		l := plainWords(s.tokens(s.tree(n%5, few))...)
		for range n % 3 {
			l = append(s.spoilt(l), word{text: s.pick(")", "x", "")})
			if l[len(l)-1].text == "" {
				l = l[:len(l)-1]
			}
			if len(l) == 0 {
				l = plainWords("x")
			}
		}
		text, _ := s.lay(l, false)
		sameExprVerdict(t, text, few)
	}
}

func TestValues(t *testing.T) { // P8.8, and the chapter's examples
	for text, want := range map[string]string{
		"-7/2": "-4", "-(7/2)": "-3", "-7%2": "1", "7/-2": "-3", "7%-2": "1", "-7/-2": "4", "-7%-2": "1", "0/5": "0", "0%5": "0", "-6/3": "-2", "-6%3": "0",
		"2-3-4": "-5", "2-(3-4)": "3", "100/10/5": "2", "100/(10/5)": "50", "2*3%4": "2", "2*(3%4)": "6", "7-2+1": "6", "7-(2+1)": "4", "2+3*4": "14", "(2+3)*4": "20", "17%10/3": "2", "-2*-3": "6", "--5": "5", "-0": "0", "1-1": "0",
		"x": "-5", "-x": "5", "y": "0", "x*x": "25", "x-y*x": "-5", "x+4294967296*4294967296": "18446744073709551611", "x%3": "1", "x/3": "-2", "y*(x-1)": "0",
	} {
		got, e := lang.Value(text, []string{"x", "y"}, state("-5 0"))
		if e != api.OK || !equalWhole(got, whole(want)) {
			t.Errorf("P8.8: Value(%q) = %v, %v; want %s", text, got, e, want)
		}
	}
	if got, e := lang.Value("3", nil, nil); e != api.OK || !equalWhole(got, whole("3")) {
		t.Errorf("P8.8: Value(3) without variables = %v, %v", got, e)
	}
	for _, n := range []int{0, 1, 3} {
		if _, e := lang.Value("1/0", []string{"x", "y"}, make([]api.Whole, n)); e != api.ErrArg {
			t.Errorf("P8.8: %d numbers for 2 names: %v", n, e)
		}
	}
}

func TestValuesThatAreNone(t *testing.T) { // P8.8: from the left, at the limit and one past it
	// x is the greatest number of MaxWide limbs, y one more, z its square root or so, n 0.
	vars := []string{"x", "y", "z", "n"}
	at := []*big.Int{power(32*api.MaxWide, -1), power(32*api.MaxWide, 0), power(16*api.MaxWide, 0), new(big.Int)}
	var given []api.Whole
	for _, v := range at {
		given = append(given, wholeOf(v))
	}
	for text, want := range map[string]api.Errno{
		"1/(2-2)": api.ErrDivide, "1%0": api.ErrDivide, "0/n": api.ErrDivide, "x/n": api.ErrDivide, "n%n": api.ErrDivide, "0*(1/0)": api.ErrDivide, "-(1/0)": api.ErrDivide,
		"x": api.OK, "-x": api.OK, "x-1": api.OK, "x*1": api.OK, "x/1": api.OK, "x%x": api.OK, "-x/2": api.OK, "x+n": api.OK, "z*(z-1)": api.OK, "-x+1": api.OK, "(z-1)*(z+1)": api.OK,
		"y": api.ErrTooBig, "-y": api.ErrTooBig, "0*y": api.ErrTooBig, "y-1": api.ErrTooBig, "x+1": api.ErrTooBig, "1+x": api.ErrTooBig, "-x-1": api.ErrTooBig, "x+1-1": api.ErrTooBig, "1-(x+1)": api.ErrTooBig, "z*z": api.ErrTooBig, "z*z-1": api.ErrTooBig, "z*z/z": api.ErrTooBig, "z*-z": api.ErrTooBig, "x*x*0": api.ErrTooBig, "0/y": api.ErrTooBig, "n%y": api.ErrTooBig,
		"1/0+y": api.ErrDivide, "y+1/0": api.ErrTooBig, "x*x+1/0": api.ErrTooBig, "1/0+x*x": api.ErrDivide, "y/0": api.ErrTooBig, "y/n": api.ErrTooBig, "(1/0)/y": api.ErrDivide, "y/(1/0)": api.ErrTooBig, "(x+1)/n": api.ErrTooBig, "x*x/n": api.ErrTooBig, "(1%n)*(x*x)": api.ErrDivide, "x*(1/n)": api.ErrDivide,
		"1": api.OK, "n-7": api.OK,
	} {
		got, e := lang.Value(text, vars, given)
		if e != want || e != api.OK && (got.Neg || len(got.Mag) > 0) {
			t.Errorf("P8.8: Value(%q): %v, want %v", text, e, want)
		}
	}
	for _, zeros := range []int{1, 700} { // R5: limbs 0 on top count for nothing
		long := api.Whole{Neg: true, Mag: append(wholeOf(at[0]).Mag, make([]uint32, zeros)...)}
		if got, e := lang.Value("x", []string{"x"}, []api.Whole{long}); e != api.OK || !equalWhole(got, wholeOf(new(big.Int).Neg(at[0]))) {
			t.Errorf("R5: with %d limbs 0 on top: %v", zeros, e)
		}
	}
}

func TestDrawnValues(t *testing.T) { // P8.8
	s := &stream{86}
	met := map[api.Errno]int{}
	for n := range 6000 {
		x, given := s.tree(n%6, few), s.wholes(len(few), 40)
		if n%2 == 0 { // at the limit, or at half of it, so that products are there
			given[s.below(len(few))] = wholeOf(power(uint(32*api.MaxWide/(1+s.below(2))), int64(s.below(3)-1)))
		}
		at := map[string]*big.Int{}
		for i, name := range few {
			at[name] = toBig(given[i])
		}
		text := s.join(s.tokens(x))
		if len(text) > api.MaxText {
			continue
		}
		got, e := lang.Value(text, few, given)
		want, wantE := x.value(at)
		met[e]++
		if e != wantE || e == api.OK && !equalWhole(got, wholeOf(want)) {
			t.Fatalf("P8.8: Value(%q) at %v = %v, %v; want %v, %v", text, given, got, e, want, wantE)
		}
	}
	if met[api.OK] < 1000 || met[api.ErrDivide] < 100 || met[api.ErrTooBig] < 100 {
		t.Errorf("too few of a kind were drawn: %v", met)
	}
}
