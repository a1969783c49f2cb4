package glyph_test

import (
	"slices"
	"strings"
	"testing"

	"rafter/api"
	"rafter/glyph"
)

func TestCodesAreText(t *testing.T) { // P4.7
	for _, s := range texts() {
		l, e, _ := glyph.Glyphs(s)
		if e != api.OK {
			continue
		}
		var out strings.Builder
		for i, g := range l {
			if out.Len() != g.At.Byte || i != g.At.Glyph {
				t.Fatalf("P4.7: %q: %v stands behind %d bytes and %d glyphs", s, g, out.Len(), i)
			}
			if i > 0 && (g.At.Byte <= l[i-1].At.Byte || g.At.Line < l[i-1].At.Line) {
				t.Fatalf("P4.7: %q: places fall at %v", s, g)
			}
			out.WriteRune(rune(g.Code))
		}
		if out.String() != s {
			t.Fatalf("P4.7: %q became %q", s, out.String())
		}
	}
}

func TestJoinScans(t *testing.T) { // P4.8
	taken := 0
	for _, s := range texts() {
		l, e, _ := glyph.Scan(s)
		joined := glyph.Join(l)
		if e != api.OK || len(joined) > api.MaxText {
			continue
		}
		taken++
		again, e, p := glyph.Scan(joined)
		if e != api.OK || !slices.Equal(say(again), say(l)) {
			t.Fatalf("P4.8: %q: %v, %v at %v, want %v", joined, again, e, p, l)
		}
	}
	if taken < 100 {
		t.Error("too few texts are taken to tell anything:", taken)
	}
}

func TestBlanksMore(t *testing.T) { // P4.8: between two tokens
	blanks := []string{" ", "\t", "\n", "\r", "\u00a0", "\u3000", "  \n", "# a comment\n"}
	for n, s := range texts() {
		l, e, _ := glyph.Scan(s)
		if e != api.OK {
			continue
		}
		for i := range l {
			wide := s[:l[i].At.Byte] + blanks[(n+i)%len(blanks)] + s[l[i].At.Byte:]
			again, e, p := glyph.Scan(wide)
			if e != api.OK || !slices.Equal(say(again), say(l)) {
				t.Fatalf("P4.8: %q: %v, %v at %v, want %v", wide, again, e, p, l)
			}
		}
	}
}

func TestBlankForComment(t *testing.T) { // P4.8: in the place of a comment
	for _, c := range [][2]string{{"x#1\ny", "x y"}, {"x#1\ny", "x \ny"}, {"# \u00e9", " "}, {"1#\n2", "1 2"}, {"a # b # c\n:= 2", "a  := 2"}} {
		one, e1, _ := glyph.Scan(c[0])
		two, e2, _ := glyph.Scan(c[1])
		if e1 != api.OK || e2 != api.OK || !slices.Equal(say(one), say(two)) {
			t.Errorf("P4.8: %q and %q: %v and %v", c[0], c[1], one, two)
		}
	}
}

func TestLeftToRight(t *testing.T) { // P4.9
	behind := append(slices.Clone(bad), "", "=", "\n=", "x", "\x88", "\xa0\x80", " ok", "\xff\n#", "\u2081")
	refusals := 0
	for n, s := range texts() {
		more := s + "\n" + behind[n%len(behind)]
		if l, e, p := glyph.Scan(s); e != api.OK {
			refusals++
			if l2, e2, p2 := glyph.Scan(more); e2 != e || p2 != p || len(l) != 0 || len(l2) != 0 {
				t.Fatalf("P4.9: Scan of %q: %v at %v; of %q: %v at %v", s, e, p, more, e2, p2)
			}
		}
		if l, e, p := glyph.Glyphs(s); e != api.OK {
			if l2, e2, p2 := glyph.Glyphs(more); e2 != e || p2 != p || len(l) != 0 || len(l2) != 0 {
				t.Fatalf("P4.9: Glyphs of %q: %v at %v; of %q: %v at %v", s, e, p, more, e2, p2)
			}
		}
	}
	if refusals < 100 {
		t.Error("too few texts are refused to tell anything:", refusals)
	}
}

func TestOtherSigns(t *testing.T) { // P4.10
	plain := "y := -2*x / (3 - z) % 4; if x != 0 { @a ? b } # - * / := !=\n:=!=--**//"
	other := []*strings.Replacer{
		strings.NewReplacer("-", "\u2212"), strings.NewReplacer("*", "\u00b7"), strings.NewReplacer("*", "\u00d7"), strings.NewReplacer("/", "\u00f7"), strings.NewReplacer(":=", "\u2254"), strings.NewReplacer("!=", "\u2260"),
		strings.NewReplacer("-", "\u2212", "*", "\u00d7", "/", "\u00f7", ":=", "\u2254", "!=", "\u2260"),
	}
	for _, s := range append(texts(), plain) {
		l, e, _ := glyph.Scan(s)
		for _, r := range other {
			again, e2, p := glyph.Scan(r.Replace(s))
			if e2 != e || !slices.Equal(say(again), say(l)) {
				t.Fatalf("P4.10: %q: %v, %v at %v, want %v", r.Replace(s), again, e2, p, l)
			}
		}
	}
}
