package guard_test

import (
	"math/big"
	"strings"
	"testing"

	"rafter/api"
	"rafter/guard"
)

func TestForms(t *testing.T) { // P9.1, P9.2, and the chapter's examples
	for text, want := range map[string]string{
		"2*(x+3*y)-x": "1 6 0", "(x-x)*y": "0 0 0", "7/2*x": "3 0 0", "-7%(1+1)": "0 0 1", "3*4*y*2": "0 24 0",
		"0": "0 0 0", "007": "0 0 7", "x": "1 0 0", "y": "0 1 0", "-x": "-1 0 0", "--x": "1 0 0", "-0": "0 0 0", "((y))": "0 1 0",
		"x+y": "1 1 0", "x-y": "1 -1 0", "x-y-x-y": "0 -2 0", "x-(y-x)": "2 -1 0", "x+1-1": "1 0 0", "-(x-5)": "-1 0 5", "1-x": "-1 0 1", "x-x": "0 0 0", "3-(2-(1-y))": "0 -1 2",
		"x*3": "3 0 0", "3*x": "3 0 0", "x*-3": "-3 0 0", "-2*-y": "0 2 0", "x*0": "0 0 0", "x*0*y": "0 0 0", "y*(x*0)": "0 0 0", "(x-x+2)*y": "0 2 0", "y*(x-x+2)": "0 2 0", "(x+1)*(3-1)": "2 0 2", "(1-2)*(x+y+7)": "-1 -1 -7", "(x-x)*(y-y)": "0 0 0", "2*3": "0 0 6", "(y-y)*(x+1)*x": "0 0 0",
		"7/2": "0 0 3", "-7/2": "0 0 -4", "7/-2": "0 0 -3", "-7/-2": "0 0 4", "-(7/2)": "0 0 -3", "7%2": "0 0 1", "-7%2": "0 0 1", "7%-2": "0 0 1", "0/5": "0 0 0", "0%5": "0 0 0", "(x-x)/3": "0 0 0", "(x-x+7)/(y-y+2)": "0 0 3", "(x-x-7)%(2+y-y)": "0 0 1", "100/10/5": "0 0 2", "7/(4/2)": "0 0 3", "7%4*x": "3 0 0", "x+6/3": "1 0 2", "x*(7/2)": "3 0 0", "x*0/5": "0 0 0", "(x*0+9)%4": "0 0 1",
		"2\u00b7x \u2212 3\u00d7y + 8\u00f73 # and so": "2 -3 2",
	} {
		sameForm(t, "P9.1", text, xy, row(want))
	}
}

func TestNoForms(t *testing.T) { // P9.1: it hangs on how the expression is written
	for _, text := range strings.Fields("x*y 0*(x*y) (x*y)*0 x*x x*x-x*x x/1 x%1 1/(x-x) 1/0 0/0 0%0 1%(2-2) x/x 0/x 0%x (x+1)/2 6/(x+1) 2*x/2 x/2*2 x/2-x/2 -(x*y) x+x*y x*y+x (x*y)-1 1-(x*y) 0*(1/0) (1/0)*0 0*(x/2) 1/(1/0) (x/2)/1 5/(x/2) 5%(x%2) (x+1)*(x-1) (x-x+y)*x 3*(2*(x*y)) 1/(x*0) 1%(y-y)") {
		sameForm(t, "P9.1", text, xy, nil)
	}
}

func TestDrawnForms(t *testing.T) { // P9.1, P9.2
	s := &stream{1}
	with, without := 0, 0
	for n := range 9000 {
		vars := [][]string{nil, xy, many[:5], many}[n%4]
		x := s.tree(n%6, vars)
		text := x.text(func() bool { return s.below(5) == 0 })
		if len(text) > api.MaxText {
			continue
		}
		want := x.form(vars)
		sameForm(t, "P9.1", text, vars, want)
		if want != nil {
			with++
		} else {
			without++
		}
	}
	if with < 2000 || without < 2000 {
		t.Errorf("too few of a kind were drawn: %d with a form, %d without", with, without)
	}
}

func TestLongForms(t *testing.T) { // P9.2: however long its numbers are
	big1, count := most.String(), 13
	product := new(big.Int).Exp(most, big.NewInt(int64(count)), nil)
	text := strings.Repeat(big1+"*", count-1) + big1
	zero := new(big.Int)
	sameForm(t, "P9.2", text, xy, []*big.Int{zero, zero, product})
	sameForm(t, "P9.2", "x*"+text, xy, []*big.Int{product, zero, zero})
	sameForm(t, "P9.2", "-("+text+"*(y-1))", xy, []*big.Int{zero, new(big.Int).Neg(product), product})
	sameForm(t, "P9.2", big1, nil, []*big.Int{most})
	sameForm(t, "P9.2", big1+"*"+big1+"/"+big1+"+x", xy, []*big.Int{big.NewInt(1), zero, most})
	sameForm(t, "P9.2", "("+big1+"*"+big1+"+5)%"+big1+"*y", xy, []*big.Int{zero, big.NewInt(5), zero})
	sameForm(t, "P9.2", "x"+strings.Repeat("+x", (api.MaxText-1)/2), xy, []*big.Int{big.NewInt(api.MaxText / 2), zero, zero})
	sameForm(t, "P9.2", strings.Repeat("-", api.MaxText-1)+"x", xy, []*big.Int{big.NewInt(-1), zero, zero})
	sameForm(t, "P9.2", "2"+strings.Repeat("*2", (api.MaxText-1)/2), nil, []*big.Int{power(api.MaxText/2, 0)})
	sameForm(t, "P9.2", strings.Repeat("(", api.MaxNest)+"x"+strings.Repeat(")", api.MaxNest), xy, row("1 0 0"))
	sameForm(t, "P9.2", "x\u00b0 - 2*x + 3*y\u00b0 - m", many, row("-2 0 0 0 0 0 0 0 0 0 0 0 0 -1 1 3 0"))
}

func TestAffineRefused(t *testing.T) { // P9.2: what lang.Expr refuses
	for _, x := range []struct {
		text  string
		e     api.Errno
		bytes int
	}{
		{"", api.ErrSyntax, 0}, {"x +", api.ErrSyntax, 3}, {"x = y", api.ErrSyntax, 2}, {"x y", api.ErrSyntax, 2}, {"x*y)", api.ErrSyntax, 3}, {"any", api.ErrSyntax, 0}, {"x := 1", api.ErrSyntax, 2}, {"2x", api.ErrSyntax, 1}, {"z", api.ErrUnknown, 0}, {"x + \u03b1*2", api.ErrUnknown, 4}, {"x\n+ <", api.ErrSign, 4}, {"z <", api.ErrSign, 2},
		{strings.Repeat("(", api.MaxNest+1) + "x", api.ErrDeep, api.MaxNest}, {"x + 0" + most.String() + "0", api.ErrTooBig, 4}, {"abcdefghijklmnopq", api.ErrName, 0}, {"x*y*", api.ErrSyntax, 4},
	} {
		affineRefused(t, x.text, xy, x.e, placeOf(x.text, x.bytes))
	}
	affineRefused(t, "x \xff", xy, api.ErrRune, api.Place{Byte: 2, Glyph: 2, Line: 1, Column: 3})
	affineRefused(t, strings.Repeat(" ", api.MaxText)+"x", xy, api.ErrTooBig, api.Place{})
	affineRefused(t, "any", []string{"any"}, api.ErrSyntax, placeOf("", 0))
}

// wrongNames are lists that affine.Names refuses.
var wrongNames = [][]string{{"x", "y", "x"}, {"x", "2"}, {"x", ""}, {"x", "y "}, {"x", "abcdefghijklmnopq"}, append([]string{"a"}, many...), {"x", "\xff"}}

func TestWrongNames(t *testing.T) { // P9.2, P9.3: ahead of all that is wrong with the text
	for _, vars := range wrongNames {
		for _, text := range []string{"x", "x = 1", "x x", "", "<", "\xff", "x*x", strings.Repeat(" ", api.MaxText+1)} {
			affineRefused(t, text, vars, api.ErrArg, api.Place{})
			condRefused(t, text, vars, api.ErrArg, api.Place{})
		}
	}
}

// sameAffineVerdict fails the test if Affine does not refuse just what lang.Expr does.
func sameAffineVerdict(t *testing.T, text string, vars []string) {
	t.Helper()
	e, at := exprVerdict(text, vars)
	if e != api.OK {
		affineRefused(t, text, vars, e, at)
	} else if f, ok, got, p := guard.Affine(text, vars); got != api.OK || p != (api.Place{}) || ok != (len(f) == len(vars)+1) || !ok && len(f) > 0 {
		t.Fatalf("P9.2: Affine(%q) = %s, %v, %v at %v", text, say(f), ok, got, p)
	}
}

func TestAffineSpoilt(t *testing.T) { // P9.2: what lang.Expr refuses, and nothing else
	s := &stream{2}
	for n := range 5000 {
		text := s.tree(n%4, xy).short()
		for range 1 + n%3 {
			text = s.spoilt(text)
		}
		sameAffineVerdict(t, text, xy)
	}
}
