package lang_test

import (
	"slices"
	"strings"
	"testing"

	"rafter/api"
	"rafter/glyph"
	"rafter/lang"
)

func TestRefused(t *testing.T) { // P8.3: the first token at which something is wrong
	for _, x := range []struct {
		text  string
		e     api.Errno
		bytes int
	}{
		// The chapter's examples.
		{"vars x", api.ErrSyntax, 6}, {"x := 1;", api.ErrSyntax, 0}, {"vars x, x;", api.ErrTwice, 8}, {"vars x; y := 1;", api.ErrUnknown, 8}, {"vars x; x := x +;", api.ErrSyntax, 16},
		{"vars any;", api.ErrSyntax, 5}, {"vars x\u00b0;", api.ErrName, 5}, {"vars a,b,c,d,e,f,g,h,i;", api.ErrTooBig, 21}, {"vars x; x := 1 = 2;", api.ErrSyntax, 15}, {"vars x; mark x; mark x;", api.ErrTwice, 21},
		// Declarations.
		{"", api.ErrSyntax, 0}, {" # vars\n ", api.ErrSyntax, 9}, {"Vars;", api.ErrSyntax, 0}, {"vars x,;", api.ErrSyntax, 7}, {"vars ,x;", api.ErrSyntax, 5}, {"vars x y;", api.ErrSyntax, 7}, {"vars 1;", api.ErrSyntax, 5},
		{"vars x = ;", api.ErrSyntax, 9}, {"vars x = y;", api.ErrSyntax, 9}, {"vars x = --1;", api.ErrSyntax, 10}, {"vars x = +1;", api.ErrSyntax, 9}, {"vars x = (1);", api.ErrSyntax, 9}, {"vars x = 1 + 1;", api.ErrSyntax, 11}, {"vars x := 1;", api.ErrSyntax, 7}, {"vars x = -;", api.ErrSyntax, 10}, {"vars x = - y;", api.ErrSyntax, 11}, {"vars x = any;", api.ErrSyntax, 9},
		{"vars x; vars y;", api.ErrSyntax, 8}, {"vars x = 1, x = 2;", api.ErrTwice, 12}, {"vars abcdefghijklmnop;", api.ErrName, 5}, {"vars x = 1, a\u00b0bc;", api.ErrName, 12},
		// Statements.
		{"vars x; x;", api.ErrSyntax, 9}, {"vars x; x = 1;", api.ErrSyntax, 10}, {"vars x; x := any + 1;", api.ErrSyntax, 17}, {"vars x; x := -any;", api.ErrSyntax, 14}, {"vars x; any := x;", api.ErrSyntax, 8}, {"vars x; x := 1", api.ErrSyntax, 14}, {"vars x; 1 := x;", api.ErrSyntax, 8},
		{"vars x; skip", api.ErrSyntax, 12}, {"vars x; skip x;", api.ErrSyntax, 13}, {"vars x; stop stop;", api.ErrSyntax, 13}, {"vars x; mark;", api.ErrSyntax, 12}, {"vars x; mark or;", api.ErrSyntax, 13}, {"vars x; mark 1;", api.ErrSyntax, 13}, {"vars x; mark m n;", api.ErrSyntax, 15}, {"vars x; ;", api.ErrSyntax, 8}, {"vars x; }", api.ErrSyntax, 8}, {"vars x; { }", api.ErrSyntax, 8},
		{"vars x; mark m\u00b0;", api.ErrName, 13}, {"vars x; mark abcdefghijklmnop;", api.ErrName, 13}, {"vars x; mark m; loop { mark m; }", api.ErrTwice, 28},
		// Blocks.
		{"vars x; choose;", api.ErrSyntax, 14}, {"vars x; choose { } or;", api.ErrSyntax, 21}, {"vars x; or { }", api.ErrSyntax, 8}, {"vars x; loop { } or { }", api.ErrSyntax, 17}, {"vars x; loop { } else { }", api.ErrSyntax, 17}, {"vars x; choose { } else { }", api.ErrSyntax, 19}, {"vars x; else { }", api.ErrSyntax, 8}, {"vars x; loop { skip; ", api.ErrSyntax, 21}, {"vars x; loop ( )", api.ErrSyntax, 13}, {"vars x; loop x = 1 { }", api.ErrSyntax, 13},
		{"vars x; if x { }", api.ErrSyntax, 13}, {"vars x; if { }", api.ErrSyntax, 11}, {"vars x; if x = { }", api.ErrSyntax, 15}, {"vars x; if x = 1 = 1 { }", api.ErrSyntax, 17}, {"vars x; if (x = 1) { }", api.ErrSyntax, 14}, {"vars x; if x := 1 { }", api.ErrSyntax, 13}, {"vars x; if x = 1 skip;", api.ErrSyntax, 17}, {"vars x; if x = 1 { } else skip;", api.ErrSyntax, 26}, {"vars x; if x = 1 { } else { } else { }", api.ErrSyntax, 30}, {"vars x; if x = 1 { } else if x = 2 { }", api.ErrSyntax, 26}, {"vars x; while x = 1 { } else { }", api.ErrSyntax, 24}, {"vars x; while x != any { }", api.ErrSyntax, 19}, {"vars x; while y = 1 { }", api.ErrUnknown, 14},
		// Expressions.
		{"vars x; x := ;", api.ErrSyntax, 13}, {"vars x; x := ();", api.ErrSyntax, 14}, {"vars x; x := (1;", api.ErrSyntax, 15}, {"vars x; x := 1);", api.ErrSyntax, 14}, {"vars x; x := 2x;", api.ErrSyntax, 14}, {"vars x; x := x 2;", api.ErrSyntax, 15}, {"vars x; x := +1;", api.ErrSyntax, 13}, {"vars x; x := 1 ** 2;", api.ErrSyntax, 16}, {"vars x; x := 1 ?;", api.ErrSyntax, 15}, {"vars x; x := @x;", api.ErrSyntax, 13}, {"vars x; x := (1, 2);", api.ErrSyntax, 15}, {"vars x; x := x != 1;", api.ErrSyntax, 15}, {"vars x; x := y;", api.ErrUnknown, 13}, {"vars x; x := (1 + y;", api.ErrUnknown, 18}, {"vars x; x := x\u00b0;", api.ErrUnknown, 13}, {"vars x; x := loop;", api.ErrSyntax, 13}, {"vars; x", api.ErrUnknown, 6}, {"vars x; mark m; x := m;", api.ErrUnknown, 21}, {"vars x; abcdefghijklmnop := 1;", api.ErrUnknown, 8},
	} {
		refused(t, x.text, x.e, x.bytes)
	}
}

func TestFirstOfSeveral(t *testing.T) { // P8.3: of one token in the chapter's order, else the first token; what Scan refuses ahead of all
	deep := "vars x;" + strings.Repeat("loop{", api.MaxNest)
	long := "9" + power(32*api.MaxLimbs, -1).String()
	for _, x := range []struct {
		text  string
		e     api.Errno
		bytes int
	}{
		{"vars a,b,c,d,e,f,g,h,a;", api.ErrTwice, 21}, {"vars a,b,c,d,e,f,g,h,i\u00b0;", api.ErrName, 21}, {"vars a,b,c,d,e,f,g,h,or;", api.ErrSyntax, 21}, {"vars a,b,c,d,e,f,g,h,abcdefghijklmnop;", api.ErrName, 21},
		{"vars x, x, y\u00b0;", api.ErrTwice, 8}, {"vars x\u00b0, x\u00b0;", api.ErrName, 5}, {"vars x; y = 1;", api.ErrUnknown, 8}, {"vars x; x = y;", api.ErrSyntax, 10},
		{deep + "loop{", api.ErrDeep, len(deep) + 4}, {deep + "x:=(1);", api.ErrDeep, len(deep) + 3}, {deep + "x(", api.ErrSyntax, len(deep) + 1}, {deep + "skip{", api.ErrSyntax, len(deep) + 4}, {deep + "if (", api.ErrDeep, len(deep) + 3}, {deep + "x:=y+(", api.ErrUnknown, len(deep) + 3}, {deep + "}loop{loop{", api.ErrDeep, len(deep) + 10}, {deep + "{", api.ErrSyntax, len(deep)},
		{"vars x;x:=" + strings.Repeat("(", api.MaxNest+1), api.ErrDeep, 10 + api.MaxNest}, {"vars x;x:=" + strings.Repeat("-(", api.MaxNest) + "1" + strings.Repeat(")", api.MaxNest) + "*(((1)))", api.ErrSyntax, 10 + 3*api.MaxNest + 1 + 8},
		{"x <", api.ErrSign, 2}, {"vars x; y := 1; :", api.ErrSign, 16}, {"vars x, x; abcdefghijklmnopq", api.ErrName, 11}, {"no " + long, api.ErrTooBig, 3}, {"vars x = " + long + ";", api.ErrTooBig, 9}, {"vars any; \u00e9", api.ErrSign, 10}, {"any < " + long, api.ErrSign, 4},
	} {
		refused(t, x.text, x.e, x.bytes)
	}
	if p, e, at := lang.Parse("no \xff"); p != nil || e != api.ErrRune || at != place(3, 3, 1, 4) {
		t.Errorf("P8.3: %v at %v of a byte that is part of no glyph", e, at)
	}
	for _, text := range []string{"vars x;" + strings.Repeat(" ", api.MaxText-6), strings.Repeat("<", api.MaxText+1), strings.Repeat("\xff", 9999)} {
		if p, e, at := lang.Parse(text); p != nil || e != api.ErrTooBig || at != (api.Place{}) {
			t.Errorf("P8.3: %v at %v of a text that is too long", e, at)
		}
		if _, e, at := lang.Expr(text, few); e != api.ErrTooBig || at != (api.Place{}) {
			t.Errorf("P8.7: %v at %v of a text that is too long", e, at)
		}
	}
}

// sameVerdict fails the test if Parse does not refuse what the grammar does.
func sameVerdict(t *testing.T, text string) {
	t.Helper()
	p, e, at := lang.Parse(text)
	wantE, wantAt := verdict("program", text, nil)
	if e != wantE || at != wantAt || (p != nil) != (e == api.OK) {
		t.Fatalf("P8.3: Parse(%q): %v at %v, want %v at %v", text, e, at, wantE, wantAt)
	}
}

// sameExprVerdict fails the test if Expr and Value do not refuse what the grammar does.
func sameExprVerdict(t *testing.T, text string, vars []string) {
	t.Helper()
	got, e, at := lang.Expr(text, vars)
	wantE, wantAt := verdictExpr(text, vars)
	if e != wantE || at != wantAt || (got != "") != (e == api.OK) {
		t.Fatalf("P8.7: Expr(%q, %q): %q, %v at %v, want %v at %v", text, vars, got, e, at, wantE, wantAt)
	}
	x, ve := lang.Value(text, vars, make([]api.Whole, len(vars)))
	if e != api.OK && ve != e || e == api.OK && ve != api.OK && ve != api.ErrDivide && ve != api.ErrTooBig || ve != api.OK && (x.Neg || len(x.Mag) > 0) {
		t.Fatalf("P8.8: Value(%q, %q): %v, %v, where Expr says %v", text, vars, x, ve, e)
	}
	if _, ve = lang.Value(text, vars, make([]api.Whole, len(vars)+1)); e != api.OK && ve != e || e == api.OK && ve != api.ErrArg {
		t.Fatalf("P8.8: Value(%q, %q) with a number too many: %v", text, vars, ve)
	}
}

// spoilt answers tokens of which one is left out, exchanged for another one, moved, or has another one ahead.
func (s *stream) spoilt(l []word) []word {
	strange := append([]string{"x", "x0", "\u03b1\u20811", "z", "0", "12", "(", ")", "{", "}", ",", ";", "=", ":=", "!=", "+", "-", "*", "/", "%", "?", "@", "m1", "x\u00b0", "abcdefghijklmnop", "abcdefghijklmnopq", "<", ":"}, words...)
	out, i := slices.Clone(l), s.below(len(l))
	other := word{text: s.pick(strange...)}
	if s.below(2) == 0 {
		other = l[s.below(len(l))]
	}
	switch s.below(4) {
	case 0:
		return slices.Delete(out, i, i+1)
	case 1:
		out[i] = other
		return out
	case 2:
		j := s.below(len(l))
		out[i], out[j] = out[j], out[i]
		return out
	}
	return slices.Insert(out, i, other)
}

// spoiltTexts answers programs, and what is none, as tokens with blanks between.
func spoiltTexts(seed uint64, count int) []string {
	s := &stream{seed}
	var out []string
	for n := range count {
		l := s.words(s.program())
		for range n % 4 {
			l = append(s.spoilt(l), word{text: ";"})
		}
		text, _ := s.lay(l, false)
		if len(text) <= api.MaxText {
			out = append(out, text)
		}
	}
	return out
}

func TestSpoilt(t *testing.T) { // P8.1, P8.3
	for _, text := range spoiltTexts(82, 4000) {
		sameVerdict(t, text)
	}
}

func TestShortTexts(t *testing.T) { // P8.1, P8.3, P8.7: all that can be said with few tokens
	vocabulary := append([]string{"x", "y", "5", ";", ",", "=", "!=", ":=", "+", "-", "*", "(", ")", "{", "}", "?"}, words...)
	heads := []string{"", "vars", "vars x", "vars x;", "vars x; x", "vars x; x :=", "vars x; if x", "vars x; if x =", "vars x; choose {", "vars x; choose { }", "vars x; if x = 1 { } ", "vars x; mark x; mark", "vars x; x := ("}
	for _, a := range vocabulary {
		for _, b := range vocabulary {
			for _, head := range heads {
				sameVerdict(t, head+" "+a+" "+b)
			}
			for _, c := range vocabulary[:16] {
				sameExprVerdict(t, a+" "+b+" "+c, []string{"x", "any"})
			}
		}
	}
}

func TestBeginnings(t *testing.T) { // P8.3: what a program begins with is refused at its end alone, if at all
	s := &stream{83}
	for range 60 {
		_, text, _ := s.short(false)
		tokens := scan(text)
		for n := range tokens {
			piece := glyph.Join(tokens[:n])
			if len(piece) > api.MaxText {
				break
			}
			_, e, at := lang.Parse(piece)
			if e != api.OK && (e != api.ErrSyntax || at.Byte != len(piece)) {
				t.Fatalf("P8.3: %q: %v at %v", piece, e, at)
			}
		}
	}
}

func TestNamesRefused(t *testing.T) { // P8.7, P8.8: vars that affine.Names refuses, ahead of all else
	many := strings.Fields("a b c d e f g h i j k l m n o p q")
	for _, vars := range [][]string{{"x", "x"}, {""}, {"1"}, {"x "}, {"x", "abcdefghijklmnopq"}, many} {
		for _, text := range []string{"x", "", "<", "(", strings.Repeat(" ", api.MaxText+1)} {
			sameExprVerdict(t, text, vars)
			if _, e, at := lang.Expr(text, vars); e != api.ErrArg || at != (api.Place{}) {
				t.Errorf("P8.7: Expr(%.9q, %q): %v at %v", text, vars, e, at)
			}
			if _, e := lang.Value(text, vars, nil); e != api.ErrArg {
				t.Errorf("P8.8: Value(%.9q, %q): %v", text, vars, e)
			}
		}
	}
	for _, vars := range [][]string{nil, {}, many[:16], {"x\u00b0", "abcdefghijklmnop", "any", "vars"}} {
		for _, text := range []string{"1", "p", "x\u00b0", "-abcdefghijklmnop", "any", "vars"} {
			sameExprVerdict(t, text, vars)
		}
	}
}
