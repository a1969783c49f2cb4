package guard_test

import (
	"math/big"
	"strings"
	"testing"

	"rafter/api"
	"rafter/guard"
	"rafter/lang"
)

func TestConds(t *testing.T) { // P9.3, and the chapter's examples
	for text, want := range map[string]string{
		"2*x = 4*y + 6": "1 -2 | 3", "x = x": "0 0 | 0", "x = 1": "1 0 | 1", "1 = x": "1 0 | 1", "x = -1": "1 0 | -1", "-x = 1": "1 0 | -1", "y = x": "1 -1 | 0", "-y = 3": "0 1 | -3", "1 = 2": "0 0 | 1", "2 = 1": "0 0 | 1", "3 = 3": "0 0 | 0", "x + 3 = x - 4": "0 0 | 1",
		"x + 1 = y": "1 -1 | -1", "6*x + 4 = 9*y": "6 -9 | -4", "6*x + 3 = 9*y": "2 -3 | -1", "4*y = 0 - 2*x": "1 2 | 0", "7/2*x = 9": "1 0 | 3", "x*0*y = 0": "0 0 | 0", "(x - x)*y = 5": "0 0 | 1", "0*x = 2*y": "0 1 | 0", "5 % 3 = 0 - y": "0 1 | -2",
	} {
		sameRow(t, "P9.3", text, xy, row(want), true)
		sameRow(t, "P9.3", strings.Replace(text, "=", "!=", 1), xy, row(want), false)
		sameRow(t, "P9.3", strings.Replace(text, " = ", "\u2260", 1), xy, row(want), false)
	}
	for _, text := range []string{"x*y = 1", "1 = x*y", "x*y = x*y", "x/1 = x", "0*(x*y) = 0", "1/0 = 1/0", "x = 1%0", "x*x = y*y", "x%2 = 0", "1/(x-x) = y"} {
		sameRow(t, "P9.3", text, xy, nil, true)
		sameRow(t, "P9.3", strings.Replace(text, "=", "!=", 1), xy, nil, false)
	}
	sameRow(t, "P9.3", "3 = 5", nil, row("1"), true)
	sameRow(t, "P9.3", "3 != 3", nil, row("0"), false)
	sameRow(t, "P9.3", "y\u00b0 = 2*x + 4", many, row("2 0 0 0 0 0 0 0 0 0 0 0 0 0 0 -1 -4"), true)
	sameRow(t, "P9.3", strings.Repeat("(", api.MaxNest)+"x"+strings.Repeat(")", api.MaxNest)+"="+strings.Repeat("(", api.MaxNest)+"y"+strings.Repeat(")", api.MaxNest), xy, row("1 -1 0"), true)
}

func TestLongConds(t *testing.T) { // P9.3: what is told is asked for its length, and nothing else
	m := most.String()
	for _, x := range []struct {
		text string
		want []*big.Int
	}{
		{"x = " + m, []*big.Int{big.NewInt(1), new(big.Int), most}},
		{m + "*x = 1", []*big.Int{most, new(big.Int), big.NewInt(1)}},
		{"x - 1 = " + m, nil}, {"x = 0 - " + m + " - 1", nil}, {"(" + m + " + 1)*x = 1", nil}, {m + "*y = 1 - y", nil},
		{"x + 1 = " + m + " + 1", []*big.Int{big.NewInt(1), new(big.Int), most}},
		{m + "*" + m + "*x = 1", nil}, {"x = " + m + "*" + m, nil},
		{m + "*" + m + "*x = " + m + "*" + m + "*y", row("1 -1 0")},
		{m + "*" + m + "*x = 0", row("1 0 0")}, {m + "*" + m + " = 0", row("0 0 1")}, {m + "*" + m + "*x - " + m + "*" + m + "*x = 3*y", row("0 1 0")},
		{m + "*" + m + "*x = " + m, []*big.Int{most, new(big.Int), big.NewInt(1)}},
		{"x/2 = " + m + "*" + m, nil},
	} {
		sameRow(t, "P9.3", x.text, xy, x.want, true)
		sameRow(t, "P9.3", strings.Replace(x.text, "=", "!=", 1), xy, x.want, false)
	}
}

func TestDrawnConds(t *testing.T) { // P9.3
	s := &stream{3}
	with, without := 0, 0
	for n := range 6000 {
		vars := [][]string{nil, xy, many[:5], many}[n%4]
		left, right := s.tree(n%5, vars), s.tree(n%3, vars)
		sign := s.pick("=", "!=", "\u2260")
		further := func() bool { return s.below(5) == 0 }
		text := left.text(further) + s.pick("", " ", "\n# = \n") + sign + right.text(further)
		if len(text) > api.MaxText {
			continue
		}
		want := rowOf(left.form(vars), right.form(vars))
		sameRow(t, "P9.3", text, vars, want, sign == "=")
		if want != nil {
			with++
		} else {
			without++
		}
	}
	if with < 1500 || without < 1000 {
		t.Errorf("too few of a kind were drawn: %d with a row, %d without", with, without)
	}
}

func TestCondRefused(t *testing.T) { // P9.3: of what is no condition
	for _, x := range []struct {
		text  string
		e     api.Errno
		bytes int
	}{
		{"x", api.ErrSyntax, 1}, {"x = ", api.ErrSyntax, 4}, {"x = y = 1", api.ErrSyntax, 6}, {"", api.ErrSyntax, 0}, {"= x", api.ErrSyntax, 0}, {"x == y", api.ErrSyntax, 3}, {"x = != y", api.ErrSyntax, 4}, {"x != y != 1", api.ErrSyntax, 7}, {"(x = y)", api.ErrSyntax, 3}, {"x := y", api.ErrSyntax, 2}, {"x + = y", api.ErrSyntax, 4}, {"(x + 1 = y", api.ErrSyntax, 7}, {"x = (y", api.ErrSyntax, 6}, {"x = y)", api.ErrSyntax, 5}, {"x = y {", api.ErrSyntax, 6}, {"x = y;", api.ErrSyntax, 5}, {"x = any", api.ErrSyntax, 4}, {"if x = y", api.ErrSyntax, 0}, {"x y = 1", api.ErrSyntax, 2},
		{"z = <", api.ErrSign, 4}, {"z = 1", api.ErrUnknown, 0}, {"x = z", api.ErrUnknown, 4}, {"x*y = z + (", api.ErrUnknown, 6}, {"x*y \u2260\nz", api.ErrUnknown, 8}, {"x ! = y", api.ErrSign, 2}, {"x < y", api.ErrSign, 2}, {"x = abcdefghijklmnopq", api.ErrName, 4},
		{"x = " + strings.Repeat("(", api.MaxNest+1), api.ErrDeep, 4 + api.MaxNest}, {strings.Repeat("(", api.MaxNest+1) + "x = 1", api.ErrDeep, api.MaxNest}, {"1 = " + most.String() + "0", api.ErrTooBig, 4},
	} {
		condRefused(t, x.text, xy, x.e, placeOf(x.text, x.bytes))
	}
	condRefused(t, "x = \xff", xy, api.ErrRune, api.Place{Byte: 4, Glyph: 4, Line: 1, Column: 5})
	condRefused(t, strings.Repeat(" ", api.MaxText-4)+"x = y", xy, api.ErrTooBig, api.Place{})
	condRefused(t, "any = 1", []string{"any"}, api.ErrSyntax, placeOf("", 0))
}

// sameCondVerdict fails the test if Cond does not refuse what it must, or anything else.
func sameCondVerdict(t *testing.T, text string, vars []string) {
	t.Helper()
	e, at := condVerdict(text, vars)
	if e != api.OK {
		condRefused(t, text, vars, e, at)
	} else if r, ok, _, got, p := guard.Cond(text, vars); got != api.OK || p != (api.Place{}) || ok != (len(r) == len(vars)+1) || !ok && len(r) > 0 {
		t.Fatalf("P9.3: Cond(%q) = %s, %v, %v at %v", text, say(r), ok, got, p)
	}
}

func TestCondSpoilt(t *testing.T) { // P9.3
	s := &stream{4}
	for n := range 5000 {
		text := s.tree(n%4, xy).short() + s.pick("=", " != ", "\u2260", "") + s.tree(n%3, xy).short()
		for range n % 3 {
			text = s.spoilt(text)
		}
		sameCondVerdict(t, text, xy)
	}
}

func TestCondOfPrograms(t *testing.T) { // P9.3: what stands behind `if` is refused alike
	s := &stream{5}
	for n := range 2000 {
		text := s.spoilt(s.tree(n%3, xy).short() + " = " + s.tree(n%2, xy).short())
		if strings.ContainsAny(text, "{#") {
			continue
		}
		const ahead = "vars x,y;if "
		_, _, _, e, at := guard.Cond(text, xy)
		_, wantE, wantAt := lang.Parse(ahead + text + " {}")
		if e != wantE {
			t.Fatalf("P9.3: Cond(%q): %v; in a program %v", text, e, wantE)
		}
		if e != api.OK && at.Byte < len(text) && wantAt.Byte != at.Byte+len(ahead) {
			t.Fatalf("P9.3: Cond(%q): at %v; in a program at %v", text, at, wantAt)
		}
	}
}
