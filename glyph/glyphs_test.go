package glyph_test

import (
	"math"
	"slices"
	"strings"
	"testing"

	"rafter/api"
	"rafter/glyph"
)

func TestClass(t *testing.T) { // P4.1
	for code := -300; code <= 0x110100; code++ {
		if got, want := glyph.Class(code), classOf(code); got != want {
			t.Fatalf("P4.1: Class(%#x) = %d, want %d", code, got, want)
		}
	}
}

func TestClassCounts(t *testing.T) { // P4.1: how many there are of each, counted by hand
	counts := map[int]int{}
	for code := range 0x110000 {
		counts[glyph.Class(code)]++
	}
	for class, want := range map[int]int{api.ClassBlank: 6, api.ClassLetter: 26 + 26 + 17 + 7 + 25 + 64, api.ClassDigit: 10, api.ClassMark: 13, api.ClassSign: 22, api.ClassHash: 1} {
		if counts[class] != want {
			t.Errorf("P4.1: %d codes of class %d, want %d", counts[class], class, want)
		}
	}
}

func TestFarCodes(t *testing.T) { // P4.1, P4.2: of any number; what is cut off above would make it another
	for _, low := range []int{0, 'a', '0', '_', '+', '#', ' ', 0xb7, 0x2212, 0x3b1} {
		for _, high := range []int{1 << 16, 1 << 21, 1 << 32, 1 << 40, math.MinInt, -1 << 32, -1 << 16} {
			if code := low + high; glyph.Class(code) != api.ClassOther || glyph.Fold(code) != code {
				t.Errorf("P4.1, P4.2: %#x: %d, %#x", code, glyph.Class(code), glyph.Fold(code))
			}
		}
	}
	for _, code := range []int{math.MinInt, math.MaxInt, -1, -'a'} {
		if glyph.Class(code) != api.ClassOther || glyph.Fold(code) != code {
			t.Errorf("P4.1, P4.2: %d", code)
		}
	}
}

func TestFold(t *testing.T) { // P4.2
	folded := map[int]int{0xb7: '*', 0xd7: '*', 0xf7: '/', 0x2212: '-'}
	for code := -300; code <= 0x110100; code++ {
		want := code
		if to, ok := folded[code]; ok {
			want = to
		}
		if got := glyph.Fold(code); got != want {
			t.Fatalf("P4.2: Fold(%#x) = %#x, want %#x", code, got, want)
		}
	}
}

func TestGlyphs(t *testing.T) { // P4.3
	l, e, p := glyph.Glyphs("\u03b1\n#\u20ac\n\n\U0001f600 9\r-")
	want := []api.Glyph{
		{Code: 0x3b1, Class: api.ClassLetter, At: at(0, 0, 1, 1)},
		{Code: 0x0a, Class: api.ClassBlank, At: at(2, 1, 1, 2)},
		{Code: '#', Class: api.ClassHash, At: at(3, 2, 2, 1)},
		{Code: 0x20ac, Class: api.ClassOther, At: at(4, 3, 2, 2)},
		{Code: 0x0a, Class: api.ClassBlank, At: at(7, 4, 2, 3)},
		{Code: 0x0a, Class: api.ClassBlank, At: at(8, 5, 3, 1)},
		{Code: 0x1f600, Class: api.ClassOther, At: at(9, 6, 4, 1)},
		{Code: ' ', Class: api.ClassBlank, At: at(13, 7, 4, 2)},
		{Code: '9', Class: api.ClassDigit, At: at(14, 8, 4, 3)},
		{Code: 0x0d, Class: api.ClassBlank, At: at(15, 9, 4, 4)}, // begins no line
		{Code: '-', Class: api.ClassSign, At: at(16, 10, 4, 5)},
	}
	if e != api.OK || p != (api.Place{}) || !slices.Equal(l, want) {
		t.Errorf("P4.3: %v, %v at %v", l, e, p)
	}
	if l, e, p := glyph.Glyphs(""); len(l) != 0 || e != api.OK || p != (api.Place{}) {
		t.Errorf("P4.3: of no byte: %v, %v at %v", l, e, p)
	}
	for _, s := range texts() {
		sameGlyphs(t, s)
	}
}

func TestEveryCode(t *testing.T) { // P4.3: each code point by itself, U+FFFD too
	for code := range 0x110000 {
		if code >= 0xd800 && code <= 0xdfff {
			continue
		}
		l, e, _ := glyph.Glyphs(string(rune(code)))
		if e != api.OK || len(l) != 1 || l[0] != (api.Glyph{Code: code, Class: classOf(code), At: at(0, 0, 1, 1)}) {
			t.Fatalf("P4.3: %#x: %v, %v", code, l, e)
		}
	}
}

func TestBytes(t *testing.T) { // P4.3: bytes of all kinds, four in a row
	edges := []byte{0x0a, 0x41, 0x7f, 0x80, 0x8f, 0x90, 0x9f, 0xa0, 0xbf, 0xc0, 0xc1, 0xc2, 0xdf, 0xe0, 0xe1, 0xed, 0xef, 0xf0, 0xf4, 0xf5, 0xf8, 0xff}
	for one := range 256 {
		for two := range 256 {
			sameGlyphs(t, string([]byte{byte(one), byte(two)}))
		}
		sameGlyphs(t, string([]byte{byte(one)}))
	}
	for _, one := range edges {
		for _, two := range edges {
			for _, three := range edges {
				for _, four := range edges {
					sameGlyphs(t, string([]byte{one, two, three, four}))
				}
			}
		}
	}
}

func TestGlyphsRefuses(t *testing.T) { // P4.3: the place of the first byte that is part of none
	for s, want := range map[string]api.Place{
		"a\xff":                            at(1, 1, 1, 2),
		"\xed\xa0\x80":                     at(0, 0, 1, 1), // U+D800
		"\xed\xbf\xbf":                     at(0, 0, 1, 1), // U+DFFF
		"\xc0\x80":                         at(0, 0, 1, 1), // not the shortest way
		"\xe0\x80\xaf":                     at(0, 0, 1, 1),
		"\xf0\x82\x82\xac":                 at(0, 0, 1, 1),
		"\xf4\x90\x80\x80":                 at(0, 0, 1, 1), // above U+10FFFF
		"\xf8\x88\x80\x80\x80":             at(0, 0, 1, 1),
		"\u03b1\n\u03b2\x80":               at(5, 3, 2, 2), // the middle of none
		"\n\n\xe2\x88":                     at(2, 2, 3, 1), // cut off
		"x\u2212\xe2\x88x":                 at(4, 2, 1, 3),
		"\ufffd\xff":                       at(3, 1, 1, 2), // U+FFFD is one itself
		"\xff\xfe":                         at(0, 0, 1, 1),
		strings.Repeat("x", 4095) + "\x80": at(4095, 4095, 1, 4096),
	} {
		if l, e, p := glyph.Glyphs(s); e != api.ErrRune || p != want || len(l) != 0 {
			t.Errorf("P4.3: %.20q: %v, %v at %v, want %v", s, l, e, p, want)
		}
	}
}

func TestGlyphsLong(t *testing.T) { // P4.3: at the limit, and one past it, in bytes
	for _, s := range []string{strings.Repeat("x", api.MaxText), strings.Repeat("\u03b1", api.MaxText/2), strings.Repeat("\n", api.MaxText)} {
		if l, e, p := glyph.Glyphs(s); e != api.OK || p != (api.Place{}) || len(l) != len([]rune(s)) {
			t.Errorf("P4.3: %d bytes: %d glyphs, %v at %v", len(s), len(l), e, p)
		}
	}
	for _, s := range []string{strings.Repeat("x", api.MaxText+1), strings.Repeat("\u03b1", api.MaxText/2) + "x", strings.Repeat("\xff", api.MaxText+1), strings.Repeat(" ", 1<<20)} {
		if l, e, p := glyph.Glyphs(s); e != api.ErrTooBig || p != (api.Place{}) || len(l) != 0 {
			t.Errorf("P4.3: %d bytes: %v at %v", len(s), e, p)
		}
	}
}
