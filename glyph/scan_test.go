package glyph_test

import (
	"slices"
	"strings"
	"testing"

	"rafter/api"
	"rafter/glyph"
)

// name, number, sign and end answer tokens.
func name(s string, p api.Place) api.Token   { return api.Token{Kind: api.TokenName, Text: s, At: p} }
func number(s string, p api.Place) api.Token { return api.Token{Kind: api.TokenNumber, Text: s, At: p} }
func sign(s string, p api.Place) api.Token   { return api.Token{Kind: api.TokenSign, Text: s, At: p} }
func end(p api.Place) api.Token              { return api.Token{Kind: api.TokenEnd, At: p} }

// scans fails the test if Scan(s) does not answer these tokens.
func scans(t *testing.T, s string, want ...api.Token) {
	t.Helper()
	if l, e, p := glyph.Scan(s); e != api.OK || p != (api.Place{}) || !slices.Equal(l, want) {
		t.Errorf("P4.4: Scan(%.40q) = %v, %v at %v, want %v", s, l, e, p, want)
	}
}

// refused fails the test if Scan(s) does not answer that error at that place, and no token.
func refused(t *testing.T, s string, want api.Errno, place api.Place) {
	t.Helper()
	if l, e, p := glyph.Scan(s); e != want || p != place || len(l) != 0 {
		t.Errorf("P4.4: Scan(%.40q) = %v, %v at %v, want %v at %v", s, l, e, p, want, place)
	}
}

func TestScan(t *testing.T) { // P4.4
	scans(t, "", end(at(0, 0, 1, 1)))
	scans(t, " \n\t\n", end(at(4, 4, 3, 1)))
	scans(t, "\u03b1\u2081 \u2254 2x \u2212 003", name("\u03b1\u2081", at(0, 0, 1, 1)), sign(":=", at(6, 3, 1, 4)), number("2", at(10, 5, 1, 6)), name("x", at(11, 6, 1, 7)), sign("-", at(13, 8, 1, 9)), number("3", at(17, 10, 1, 11)), end(at(20, 13, 1, 14)))
	scans(t, "x2y_ 3\u044f", name("x2y_", at(0, 0, 1, 1)), number("3", at(5, 5, 1, 6)), name("\u044f", at(6, 6, 1, 7)), end(at(8, 7, 1, 8)))
	scans(t, "0 00 10", number("0", at(0, 0, 1, 1)), number("0", at(2, 2, 1, 3)), number("10", at(5, 5, 1, 6)), end(at(7, 7, 1, 8)))
	scans(t, ":==!==", sign(":=", at(0, 0, 1, 1)), sign("=", at(2, 2, 1, 3)), sign("!=", at(3, 3, 1, 4)), sign("=", at(5, 5, 1, 6)), end(at(6, 6, 1, 7)))
	scans(t, "\u2254=\u2260", sign(":=", at(0, 0, 1, 1)), sign("=", at(3, 1, 1, 2)), sign("!=", at(4, 2, 1, 3)), end(at(7, 3, 1, 4)))
	for _, s := range texts() {
		sameTokens(t, s)
	}
}

func TestEachSign(t *testing.T) { // P4.4, P4.2: each by itself, folded
	for s, want := range map[string]string{"+": "+", "-": "-", "*": "*", "/": "/", "%": "%", "(": "(", ")": ")", "{": "{", "}": "}", ",": ",", ";": ";", "=": "=", "?": "?", "@": "@", "\u2254": ":=", "\u2260": "!=", ":=": ":=", "!=": "!=", "\u00b7": "*", "\u00d7": "*", "\u00f7": "/", "\u2212": "-"} {
		n := len([]rune(s))
		scans(t, s, sign(want, at(0, 0, 1, 1)), end(at(len(s), n, 1, n+1)))
	}
}

func TestEachGlyph(t *testing.T) { // P4.4: each code by itself, and behind a letter, and in a comment
	for code := range 0x3100 {
		s := string(rune(code))
		sameTokens(t, s)
		sameTokens(t, "x"+s)
		sameTokens(t, "4"+s+"=")
		sameTokens(t, "#"+s+"y")
	}
}

func TestComments(t *testing.T) { // P4.4
	scans(t, "#", end(at(1, 1, 1, 2)))
	scans(t, "x # \u00e9\ny", name("x", at(0, 0, 1, 1)), name("y", at(7, 6, 2, 1)), end(at(8, 7, 2, 2)))
	scans(t, "#x\ry# z\u2028\n#\n # w #", end(at(19, 17, 3, 7))) // U+000A alone ends one
	scans(t, "a#:!<_\nb", name("a", at(0, 0, 1, 1)), name("b", at(7, 7, 2, 1)), end(at(8, 8, 2, 2)))
	scans(t, "12#34\n56", number("12", at(0, 0, 1, 1)), number("56", at(6, 6, 2, 1)), end(at(8, 8, 2, 3)))
	refused(t, "a:#\n=", api.ErrSign, at(1, 1, 1, 2))
	refused(t, "# x\xff", api.ErrRune, at(3, 3, 1, 4))
}

func TestNames(t *testing.T) { // P4.4: MaxName glyphs, whatever their bytes
	for _, s := range []string{"a", "Abcdefghijklmnop", strings.Repeat("\u03c9", api.MaxName), "x" + strings.Repeat("\u2089", api.MaxName-1), "if", "any", "x\u00b0", "x\u2032\u2032", "\u0410_9"} {
		n := len([]rune(s))
		scans(t, s, name(s, at(0, 0, 1, 1)), end(at(len(s), n, 1, n+1)))
		refused(t, "\n 0 "+s+strings.Repeat("z", api.MaxName+1-n), api.ErrName, at(4, 4, 2, 4))
		refused(t, s+strings.Repeat("\u2080", 1000), api.ErrName, at(0, 0, 1, 1))
	}
}

func TestNumbers(t *testing.T) { // P4.4: MaxLimbs limbs; noughts ahead are none of them
	over := most[:len(most)-1] + "6" // 2^1024
	for _, ahead := range []string{"", "0", strings.Repeat("0", 3000)} {
		s := ahead + most
		scans(t, s, number(most, at(0, 0, 1, 1)), end(at(len(s), len(s), 1, len(s)+1)))
		refused(t, "x\n\u2212"+ahead+over, api.ErrTooBig, at(5, 3, 2, 2))
	}
	refused(t, strings.Repeat("9", api.MaxText), api.ErrTooBig, at(0, 0, 1, 1))
	scans(t, strings.Repeat("0", api.MaxText), number("0", at(0, 0, 1, 1)), end(at(api.MaxText, api.MaxText, 1, api.MaxText+1)))
}

func TestScanRefuses(t *testing.T) { // P4.4
	refused(t, "x : = 3", api.ErrSign, at(2, 2, 1, 3))
	refused(t, "\u2081", api.ErrSign, at(0, 0, 1, 1))
	refused(t, "x!", api.ErrSign, at(1, 1, 1, 2))
	refused(t, "x:", api.ErrSign, at(1, 1, 1, 2))
	refused(t, "3_", api.ErrSign, at(1, 1, 1, 2)) // a mark goes on no number
	refused(t, "x =\n  \u00b0", api.ErrSign, at(6, 6, 2, 3))
	refused(t, "x :\n= 3", api.ErrSign, at(2, 2, 1, 3))
	refused(t, ":\u2254", api.ErrSign, at(0, 0, 1, 1))
	refused(t, "!\u2260", api.ErrSign, at(0, 0, 1, 1))
	refused(t, "=:", api.ErrSign, at(1, 1, 1, 2))
	refused(t, "::=", api.ErrSign, at(0, 0, 1, 1))
	refused(t, "x \u0451", api.ErrSign, at(2, 2, 1, 3))
	refused(t, "x\u0301", api.ErrSign, at(1, 1, 1, 2))
	refused(t, "\u03b1\xffx", api.ErrRune, at(2, 1, 1, 2))
	refused(t, "12\n \xe2\x88", api.ErrRune, at(4, 4, 2, 2))
}

func TestFirstError(t *testing.T) { // P4.4: the one that going from left to right meets first
	long, big := strings.Repeat("x", api.MaxName+1), "9"+most
	refused(t, long+" "+big, api.ErrName, at(0, 0, 1, 1))
	refused(t, big+" "+long, api.ErrTooBig, at(0, 0, 1, 1))
	refused(t, big+long, api.ErrTooBig, at(0, 0, 1, 1))
	refused(t, "< "+long, api.ErrSign, at(0, 0, 1, 1))
	refused(t, long+"<", api.ErrName, at(0, 0, 1, 1))
	refused(t, long+"\xff", api.ErrName, at(0, 0, 1, 1))
	refused(t, big+"\xff", api.ErrTooBig, at(0, 0, 1, 1))
	refused(t, long[1:]+"\xff", api.ErrRune, at(16, 16, 1, 17))
	refused(t, "\xff"+long, api.ErrRune, at(0, 0, 1, 1))
	refused(t, ":\xff", api.ErrSign, at(0, 0, 1, 1))
	refused(t, "!\xff=", api.ErrSign, at(0, 0, 1, 1))
	refused(t, "< \xff", api.ErrSign, at(0, 0, 1, 1))
	refused(t, "\xff<", api.ErrRune, at(0, 0, 1, 1))
	refused(t, "#<\n\xff <", api.ErrRune, at(3, 3, 2, 1))
	refused(t, "<"+strings.Repeat(" ", api.MaxText), api.ErrTooBig, api.Place{}) // ahead of all others
	refused(t, "\xff"+strings.Repeat(" ", api.MaxText), api.ErrTooBig, api.Place{})
	refused(t, long+strings.Repeat(" ", api.MaxText), api.ErrTooBig, api.Place{})
	refused(t, "<"+strings.Repeat(" ", api.MaxText-1), api.ErrSign, at(0, 0, 1, 1))
}

func TestScanLong(t *testing.T) { // P4.4: many tokens, at the limit
	s := strings.Repeat("-", api.MaxText)
	if l, e, _ := glyph.Scan(s); e != api.OK || len(l) != api.MaxText+1 || l[api.MaxText] != end(at(api.MaxText, api.MaxText, 1, api.MaxText+1)) {
		t.Error("P4.4: a text of MaxText signs", len(l), e)
	}
	refused(t, s+"-", api.ErrTooBig, api.Place{})
}

func TestName(t *testing.T) { // P4.5
	for _, s := range []string{"x", "x_1", "\u03b1\u03b2\u2032", "\u0416\u00b0", "if", "vars", "Q0", "abcdefghijklmnop", strings.Repeat("\u044f", api.MaxName), "a\u2080\u2089"} {
		if !glyph.Name(s) {
			t.Errorf("P4.5: %q is a name", s)
		}
	}
	for _, s := range []string{
		"", " ", "1x", "x ", " x", "x\n", "\u00a0x", "x#", "#x", "x y", "_x", "\u2081x", "\u00b0", "x+", "-x", "3", "=", "x\xff", "\xff", "x\u00e9", "\u03a2", "abcdefghijklmnopq", strings.Repeat("\u044f", api.MaxName+1), strings.Repeat("x", api.MaxText), strings.Repeat("x", api.MaxText+1), "x" + strings.Repeat(" ", api.MaxText), "x\x00", "x#\n", "#\nx",
	} {
		if glyph.Name(s) {
			t.Errorf("P4.5: %.20q is no name", s)
		}
	}
}

func TestJoin(t *testing.T) { // P4.6: whatever they are
	for _, c := range []struct {
		texts []string
		want  string
	}{
		{nil, ""}, {[]string{""}, ""}, {[]string{"x"}, "x"}, {[]string{"x", ""}, "x "}, {[]string{"", ""}, " "}, {[]string{"x", ":=", "2", ""}, "x := 2 "}, {[]string{" ", " "}, "   "}, {[]string{"\xff", "\u03b1\n#", "00"}, "\xff \u03b1\n# 00"},
	} {
		var l []api.Token
		for i, s := range c.texts {
			l = append(l, api.Token{Kind: i*7 - 3, Text: s, At: at(-i, i, 9, 9)})
		}
		if got := glyph.Join(l); got != c.want {
			t.Errorf("P4.6: %q, want %q", got, c.want)
		}
	}
	if glyph.Join([]api.Token{}) != "" {
		t.Error("P4.6: of none")
	}
	long := api.Token{Text: strings.Repeat("x", api.MaxText)}
	if got := glyph.Join([]api.Token{long, long}); got != long.Text+" "+long.Text {
		t.Error("P4.6: longer than a text may be", len(got))
	}
}
