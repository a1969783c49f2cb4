package affine_test

import (
	"math/big"
	"strings"
	"testing"

	"rafter/affine"
	"rafter/api"
)

// sameEquation fails the test if Equation is not as the chapter says.
func sameEquation(t *testing.T, text string, vars []string) {
	t.Helper()
	got, e, p := affine.Equation(text, vars)
	want, wantE, wantP := equationOf(text, vars)
	if e != wantE || p != wantP || !equal(got, want) {
		t.Fatalf("P5.3: Equation(%q) = %v, %v at %v, want %v, %v at %v", text, got, e, p, want, wantE, wantP)
	}
}

func TestEquation(t *testing.T) { // P5.3
	for s, want := range map[string]string{
		"2x = 4y - 6": "1 -2 | -3", "1/2*x = 3/4": "2 0 | 3", "-x + 3 = 3": "1 0 | 0", "x = x": "0 0 | 0", "1 = 2": "0 0 | 1", "2 = 1": "0 0 | 1", "0 = 0": "0 0 | 0", "2\u00b7x = y": "2 -1 | 0",
		"x=0": "1 0 | 0", "0=x": "1 0 | 0", "y = 1": "0 1 | 1", "+x = +1": "1 0 | 1", "-1 = -x": "1 0 | 1", "-x-1=-y": "1 -1 | -1", "3 + 4 + x = 5": "1 0 | -2", "x + x + x = 6": "1 0 | 2", "x - x = 3": "0 0 | 1",
		"2/4x = 1/3y": "3 -2 | 0", "0x = 0*y": "0 0 | 0", "0/5 = 0x + 7": "0 0 | 1", "02/04 x = 007": "1 0 | 14", "2 x # two of them\n= # and\n 3\u00f79": "6 0 | 1", "1x = 1": "1 0 | 1", "x = y + 1/2 - 1/3": "6 -6 | 1",
	} {
		got, e, p := affine.Equation(s, xy)
		if e != api.OK || p != (api.Place{}) {
			t.Fatalf("P5.3: %q: %v at %v", s, e, p)
		}
		same(t, "P5.3: "+s, got, row(want))
	}
	got, e, p := affine.Equation("1/2 = 3", nil)
	if e != api.OK || p != (api.Place{}) || say(got) != "1" {
		t.Errorf("P5.3: without variables: %v, %v at %v", got, e, p)
	}
	sixteen := strings.Fields("a b c d e f g h i j k l m n o p")
	got, e, _ = affine.Equation("p + 2a = 3 - h", sixteen)
	if e != api.OK || say(got) != "2 0 0 0 0 0 0 1 0 0 0 0 0 0 0 1 3" {
		t.Errorf("P5.3: of 16 variables: %v, %v", got, e)
	}
}

func TestEquationRefused(t *testing.T) { // P5.3: at which byte
	for s, want := range map[string]int{
		"x/2 = 1": 1, "x = 1/0": 6, "x = z": 4, "x": 1, "x = ": 4, "x = 1 2": 6, "x == y": 3, "2 * 3 = x": 4, "x*2 = y": 1, "": 0, "  ": 2, "# x = 1": 7, "= 1": 0, "x = y = 1": 6, "--x = 1": 1, "+-x = 1": 1, "x + = 1": 4, "x - - 1 = 1": 4,
		"x = 1/2/3": 7, "x = 2 * ": 8, "2 * * x = 1": 4, "2/x = 1": 2, "2/ = 1": 3, "2/3/4x = 1": 3, "2/-3 = x": 2, "x y = 1": 2, "2x y = 1": 3, "2xy = 1": 1, "x 2 = 1": 2, "(x) = 1": 0, "2(x) = 1": 1, "x := 1": 2, "x != 1": 2, "x = 1;": 5,
		"x = 1 %": 6, "1/00 = x": 2, "0/0 = x": 2, "1/0x = z": 2, "z = 1/0": 0, "x = 2z + 1/0": 5, "x = 1/0 + z": 6, "2*z": 2, "2 z = z": 2, "x = +": 5, "x = -": 5, "x = 1 +": 7, "X = 1": 0, "x\u00b0 = 1": 0, "1/2*3 = x": 4, "x, y": 1, "x = @y": 4, "?": 0, "x = {": 4, "1 = 1 }": 6,
	} {
		if got, e, p := affine.Equation(s, xy); e != api.ErrBadEquation || p.Byte != want || p.Line != 1 || p.Column != p.Glyph+1 || len(got) != 0 {
			t.Errorf("P5.3: %q: %v, %v at %v; want byte %d", s, got, e, p, want)
		}
	}
	for s, want := range map[string]api.Place{"x/2 = 1": at(1, 1, 1, 2), "\u03b1 = 1\n+ x + 2": at(0, 0, 1, 1), "x \u2212 3\n= 2x # \u00e9\n  \u03b1": at(20, 17, 3, 3), "x\n\n": at(3, 3, 3, 1)} {
		if _, e, p := affine.Equation(s, xy); e != api.ErrBadEquation || p != want {
			t.Errorf("P5.3: %q: %v at %v; want %v", s, e, p, want)
		}
	}
}

func TestEquationTokens(t *testing.T) { // P5.3: what Scan refuses, at its place, ahead of what no equation goes on with
	long := most.String() + "0"
	for s, want := range map[string]api.Place{
		"x = \xff": at(4, 4, 1, 5), "x < y": at(2, 2, 1, 3), "x : = 1": at(2, 2, 1, 3), "x = abcdefghijklmnopq": at(4, 4, 1, 5), "x = \u2081": at(4, 4, 1, 5), "x = 1 \n!": at(7, 7, 2, 1), "x = 1 # \xc3": at(8, 8, 1, 9),
		"= = <": at(4, 4, 1, 5), "z = 1/0 \xff": at(8, 8, 1, 9), "1/0 = \u00e9": at(6, 6, 1, 7), "x x \nabcdefghijklmnopq " + long: at(5, 5, 2, 1),
	} {
		if got, e, p := affine.Equation(s, xy); e != api.ErrBadEquation || p != want || len(got) != 0 {
			t.Errorf("P5.3: %q: %v at %v; want %v", s, e, p, want)
		}
	}
	for s, want := range map[string]api.Place{"x = " + long: at(4, 4, 1, 5), "= =\n 00" + long: at(5, 5, 2, 2), "x < " + long: at(2, 2, 1, 3)} {
		wantE := api.ErrTooBig
		if strings.Contains(s, "<") {
			wantE = api.ErrBadEquation
		}
		if got, e, p := affine.Equation(s, xy); e != wantE || p != want || len(got) != 0 {
			t.Errorf("P5.3: %.20q: %v at %v; want %v at %v", s, e, p, wantE, want)
		}
	}
}

func TestEquationLong(t *testing.T) { // P5.3: at the limit of a text, and one past it
	full := "x = 1" + strings.Repeat(" ", api.MaxText-5)
	if got, e, p := affine.Equation(full, xy); e != api.OK || say(got) != "1 0 1" || p != (api.Place{}) {
		t.Errorf("P5.3: of MaxText bytes: %v, %v at %v", got, e, p)
	}
	sum := "y = 1" + strings.Repeat("+x", (api.MaxText-5)/2)
	if got, e, _ := affine.Equation(sum, xy); e != api.OK || say(got) != "2045 -1 -1" {
		t.Errorf("P5.3: of many terms: %v, %v", got, e)
	}
	for _, s := range []string{full + " ", "\xff" + full, strings.Repeat("=", api.MaxText+1)} {
		if got, e, p := affine.Equation(s, xy); e != api.ErrTooBig || p != (api.Place{}) || len(got) != 0 {
			t.Errorf("P5.3: of %d bytes: %v at %v", len(s), e, p)
		}
	}
}

func TestEquationTooBig(t *testing.T) { // P5.3, W7: the canonical row is asked for its length, and nothing else
	big := most.String()
	for s, want := range map[string]string{
		big + "x = 1": big + " 0 1", "x = " + big: "1 0 " + big, "x = " + big + "+ 1": "", "x = 1/" + big: big + " 0 1", big + "x = 1/" + big: "", "x = 1/" + big + "+ 1/2": "", big + "x + x = 1": "",
		big + "x = -" + big: "1 0 -1", "x + " + big + " + 1 = " + big: "1 0 -1", big + "x = 2y + " + big + "y + " + big + "x": "0 1 0", "1/" + big + "x = 1/" + big + "y": "1 -1 0", "x = " + big + "/2 + " + big + "/2": "1 0 " + big,
		"1 = " + big + " + " + big: "0 0 1", "1/7x - " + big + "y - " + big + "y = " + big + "/9 + x + 2": "",
	} {
		got, e, p := affine.Equation(s, xy)
		wantE := api.OK
		if want == "" {
			wantE = api.ErrTooBig
		}
		if e != wantE || p != (api.Place{}) || say(got) != want {
			t.Errorf("P5.3: %.40q: %.40s, %v at %v", s, say(got), e, p)
		}
		sameEquation(t, s, xy)
	}
	// A bad token comes ahead of a row that is too big.
	if _, e, p := affine.Equation(big+"x = 1/"+big+" + z", xy); e != api.ErrBadEquation || p.Byte != 2*len(big)+9 {
		t.Errorf("P5.3: %v at %v", e, p)
	}
}

func TestEquationNames(t *testing.T) { // P5.3: names come first of all
	for _, vars := range [][]string{{"x", "x"}, {"1"}, {""}, {"x", "y "}, strings.Fields("a b c d e f g h i j k l m n o p q")} {
		for _, s := range []string{"", "x = 1", "=", "\xff", strings.Repeat(" ", api.MaxText+1), "x = " + most.String() + "0", most.String() + "x = 1/" + most.String()} {
			if got, e, p := affine.Equation(s, vars); e != api.ErrArg || p != (api.Place{}) || len(got) != 0 {
				t.Errorf("P5.3: %.20q over %q: %v at %v", s, vars, e, p)
			}
		}
	}
}

func TestEquationWords(t *testing.T) { // P5.3: all texts of up to 5 tokens of a few kinds
	kinds := []string{"2", "0", "x", "z", "+", "-", "*", "/", "=", "("}
	var all func(text string, left int)
	all = func(text string, left int) {
		sameEquation(t, text, xy)
		for _, k := range kinds {
			if left > 0 {
				all(text+k+" ", left-1)
			}
		}
	}
	all("", 5)
}

func TestEquationSome(t *testing.T) { // P5.3: equations of many terms, and spoilt ones
	counts := map[api.Errno]int{}
	for _, s := range texts() {
		sameEquation(t, s, few)
		sameEquation(t, s, xy)
		_, e, _ := affine.Equation(s, few)
		counts[e]++
	}
	if counts[api.OK] < 300 || counts[api.ErrBadEquation] < 300 || counts[api.ErrTooBig] < 30 {
		t.Error("too few of a kind to tell anything:", counts)
	}
}

func TestEquationTerms(t *testing.T) { // P5.3: a term is its number times its variable, on either side
	for n := range int64(30) {
		for d := int64(1); d < 30; d += 4 {
			for _, side := range []string{"%x = y", "y = %x", "% + x = 0", "0 = x + %", "-%*x = y - 1", "x - % = y"} {
				s := strings.ReplaceAll(side, "%", big.NewInt(n).String()+"/"+big.NewInt(d).String())
				sameEquation(t, s, xy)
			}
		}
	}
}

func FuzzEquation(f *testing.F) { // P5.3: run as a test, it goes through the seeds
	for _, s := range texts()[:200] {
		f.Add(s)
	}
	f.Fuzz(func(t *testing.T, s string) { sameEquation(t, s, few) })
}
