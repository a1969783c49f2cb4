package glyph_test

import (
	"regexp"
	"slices"
	"strings"
	"testing"

	"rafter/api"
	"rafter/glyph"
)

// The tests ask the exported calls alone. What they are held against reads bytes by hand and tokens by patterns, and shares no code with them.

// at answers a place.
func at(b, g, l, c int) api.Place { return api.Place{Byte: b, Glyph: g, Line: l, Column: c} }

// ranges says the classes as the chapter does: from one code to another.
var ranges = []struct{ class, from, to int }{
	{api.ClassBlank, 0x09, 0x0a}, {api.ClassBlank, 0x0d, 0x0d}, {api.ClassBlank, 0x20, 0x20}, {api.ClassBlank, 0xa0, 0xa0}, {api.ClassBlank, 0x3000, 0x3000},
	{api.ClassLetter, 0x41, 0x5a}, {api.ClassLetter, 0x61, 0x7a}, {api.ClassLetter, 0x391, 0x3a1}, {api.ClassLetter, 0x3a3, 0x3a9}, {api.ClassLetter, 0x3b1, 0x3c9}, {api.ClassLetter, 0x410, 0x44f},
	{api.ClassDigit, 0x30, 0x39},
	{api.ClassMark, 0x5f, 0x5f}, {api.ClassMark, 0xb0, 0xb0}, {api.ClassMark, 0x2032, 0x2032}, {api.ClassMark, 0x2080, 0x2089},
	{api.ClassSign, 0xb7, 0xb7}, {api.ClassSign, 0xd7, 0xd7}, {api.ClassSign, 0xf7, 0xf7}, {api.ClassSign, 0x2212, 0x2212}, {api.ClassSign, 0x2254, 0x2254}, {api.ClassSign, 0x2260, 0x2260},
	{api.ClassHash, 0x23, 0x23},
}

// classOf answers the class of a code, by the ranges and the chapter's list of plain signs.
func classOf(code int) int {
	for _, r := range ranges {
		if r.from <= code && code <= r.to {
			return r.class
		}
	}
	if code > 0 && code < 0x80 && strings.Contains("+-*/%(){},;:=!?@", string(rune(code))) {
		return api.ClassSign
	}
	return api.ClassOther
}

// decode answers the code point at the head of s, and its bytes; 0 bytes, if there is none. By the bits of the bytes, as UTF-8 says them.
func decode(s string) (code, size int) {
	head := int(s[0])
	least := 0
	switch {
	case head < 0x80:
		return head, 1
	case head>>5 == 6:
		code, size, least = head&0x1f, 2, 0x80
	case head>>4 == 14:
		code, size, least = head&0x0f, 3, 0x800
	case head>>3 == 30:
		code, size, least = head&0x07, 4, 0x10000
	}
	if size == 0 || len(s) < size {
		return 0, 0
	}
	for i := 1; i < size; i++ {
		if s[i]>>6 != 2 {
			return 0, 0
		}
		code = code<<6 | int(s[i]&0x3f)
	}
	if code < least || code > 0x10ffff || 0xd800 <= code && code <= 0xdfff {
		return 0, 0
	}
	return code, size
}

// codes answers the code points of s up to the first byte that is part of none, and how many bytes they are.
func codes(s string) (list []int, bytes int) {
	for bytes < len(s) {
		code, size := decode(s[bytes:])
		if size == 0 {
			break
		}
		list = append(list, code)
		bytes += size
	}
	return list, bytes
}

// placeOf answers the place so many bytes into s, counted anew from its beginning.
func placeOf(s string, bytes int) api.Place {
	ahead := s[:bytes]
	all, _ := codes(ahead)
	onLine, _ := codes(ahead[strings.LastIndexByte(ahead, '\n')+1:])
	return at(bytes, len(all), 1+strings.Count(ahead, "\n"), 1+len(onLine))
}

// glyphsOf answers what Glyphs must answer.
func glyphsOf(s string) ([]api.Glyph, api.Errno, api.Place) {
	if len(s) > api.MaxText {
		return nil, api.ErrTooBig, api.Place{}
	}
	list, sound := codes(s)
	if sound < len(s) {
		return nil, api.ErrRune, placeOf(s, sound)
	}
	var out []api.Glyph
	bytes := 0
	for _, code := range list {
		out = append(out, api.Glyph{Code: code, Class: classOf(code), At: placeOf(s, bytes)})
		bytes += len(string(rune(code)))
	}
	return out, api.OK, api.Place{}
}

var (
	between = regexp.MustCompile(`^(?:[\t\n\r \x{a0}\x{3000}]|#[^\n]*)*`)
	names   = regexp.MustCompile(`^[A-Za-z\x{391}-\x{3a1}\x{3a3}-\x{3a9}\x{3b1}-\x{3c9}\x{410}-\x{44f}][A-Za-z\x{391}-\x{3a1}\x{3a3}-\x{3a9}\x{3b1}-\x{3c9}\x{410}-\x{44f}0-9_\x{b0}\x{2032}\x{2080}-\x{2089}]*`)
	numbers = regexp.MustCompile(`^[0-9]+`)
	signs   = regexp.MustCompile(`^(?::=|!=|[-+*/%(){},;=?@\x{b7}\x{d7}\x{f7}\x{2212}\x{2254}\x{2260}])`)
	noughts = regexp.MustCompile(`^0+([0-9])`)
	spelled = strings.NewReplacer("\u00b7", "*", "\u00d7", "*", "\u00f7", "/", "\u2212", "-", "\u2254", ":=", "\u2260", "!=")
	// most is 2^1024 - 1, the greatest number of MaxLimbs limbs.
	most = "179769313486231590772930519078902473361797697894230657273430081157732675805500963132708477322407536021120113879871393357658789768814416622492847430639474124377767893424865485276302219601246094119453082952085005768838150682342462881473913110540827237163350510684586298239947245938479716304835356329624224137215"
)

// below says whether a number in digits without noughts ahead has at most MaxLimbs limbs.
func below(digits string) bool {
	return len(digits) < len(most) || len(digits) == len(most) && digits <= most
}

// tokensOf answers what Scan must answer.
func tokensOf(s string) ([]api.Token, api.Errno, api.Place) {
	if len(s) > api.MaxText {
		return nil, api.ErrTooBig, api.Place{}
	}
	_, sound := codes(s)
	var out []api.Token
	for bytes := 0; ; {
		rest := s[bytes:sound]
		bytes += len(between.FindString(rest))
		rest, place := s[bytes:sound], placeOf(s, bytes)
		name, number, sign := names.FindString(rest), numbers.FindString(rest), signs.FindString(rest)
		bytes += len(name + number + sign)
		switch {
		case rest == "" && sound < len(s):
			return nil, api.ErrRune, place
		case rest == "":
			return append(out, api.Token{Kind: api.TokenEnd, At: place}), api.OK, api.Place{}
		case len([]rune(name)) > api.MaxName:
			return nil, api.ErrName, place
		case name != "":
			out = append(out, api.Token{Kind: api.TokenName, Text: name, At: place})
		case number != "":
			digits := noughts.ReplaceAllString(number, "$1")
			if !below(digits) {
				return nil, api.ErrTooBig, place
			}
			out = append(out, api.Token{Kind: api.TokenNumber, Text: digits, At: place})
		case sign != "":
			out = append(out, api.Token{Kind: api.TokenSign, Text: spelled.Replace(sign), At: place})
		default:
			return nil, api.ErrSign, place
		}
	}
}

// sameGlyphs fails the test if Glyphs(s) is not as the chapter says.
func sameGlyphs(t *testing.T, s string) {
	t.Helper()
	got, e, p := glyph.Glyphs(s)
	want, wantE, wantP := glyphsOf(s)
	if e != wantE || p != wantP || !slices.Equal(got, want) {
		t.Fatalf("P4.3: Glyphs(%.60q) = %v, %v at %v, want %v, %v at %v", s, got, e, p, want, wantE, wantP)
	}
}

// sameTokens fails the test if Scan(s) is not as the chapter says.
func sameTokens(t *testing.T, s string) {
	t.Helper()
	got, e, p := glyph.Scan(s)
	want, wantE, wantP := tokensOf(s)
	if e != wantE || p != wantP || !slices.Equal(got, want) {
		t.Fatalf("P4.4: Scan(%.60q) = %v, %v at %v, want %v, %v at %v", s, got, e, p, want, wantE, wantP)
	}
}

// say answers kinds and Texts of tokens, without their places.
func say(l []api.Token) []api.Token {
	out := slices.Clone(l)
	for i := range out {
		out[i].At = api.Place{}
	}
	return out
}

// stream answers numbers that look as if by chance, the same ones in each run.
type stream struct{ at uint64 }

func (s *stream) next() uint32 {
	s.at = s.at*6364136223846793005 + 1442695040888963407
	return uint32(s.at>>33 ^ s.at>>17)
}

// pick answers one of these.
func (s *stream) pick(of []string) string { return of[s.next()%uint32(len(of))] }

// text answers up to n pieces, one behind the other.
func (s *stream) text(n int, pieces []string) string {
	var out strings.Builder
	for range s.next() % uint32(n+1) {
		out.WriteString(s.pick(pieces))
	}
	return out.String()
}

// good are pieces of texts that Scan takes, if no name grows too long; a piece that could turn another one beside it has blanks.
var good = []string{
	"x", "Zz", "\u03b1\u2081", "\u03a9", "\u0416_", "q\u00b0\u2032", "a9b", "0", "7", "0042", "000", "4294967296", "+", "-", "*", "/", "%", "(", ")", "{", "}", ",", ";", "=", "?", "@", ":=", "!=", "\u00b7", "\u00d7", "\u00f7", "\u2212", "\u2254", "\u2260",
	" ", "\n", "\t", "\r", "\u00a0", "\u3000", "  \n ", "# x := \u00e9 : ! <\n", "#\n", " # \U0001f600 ## \ufffd\n",
}

// bad are pieces that no token begins with, and bytes that are part of no code point.
var bad = []string{
	":", "!", ": =", "_", "\u00b0", "\u2081", "\u2032", "<", "\u00e9", "\u03a2", "\u0451", "\ufffd", "\u0661", "\u212a", "\u0301", "\x00", "\x0b", "\u2028", "\ufeff", "\U0001d7d8", "\xff", "\xc3", "\xe2\x88", "\xed\xa0\x80", "\xc0\x80", "\xf4\x90\x80\x80", "\x80", "#\xff", "abcdefghijklmnopq", "#", "9" + strings.Repeat("7", 308),
}

// texts answers texts of all kinds: some are taken, some refused.
func texts() []string {
	out := []string{"", " ", "\n", "#", "x", "\u03b1\u2081 \u2254 2x \u2212 003", "x # \u00e9\ny", strings.Repeat("\n", 50) + "x"}
	s := &stream{3}
	for n := range 400 {
		out = append(out, s.text(n%30, good))
		out = append(out, s.text(n%9, good)+s.pick(bad)+s.text(n%4, good)+s.pick(bad))
	}
	return out
}
