package lang_test

import (
	"slices"
	"strings"
	"testing"

	"rafter/api"
	"rafter/glyph"
	"rafter/lang"
)

func TestPrintedIsRead(t *testing.T) { // P8.9, W13
	s := &stream{87}
	for n := range 1500 {
		_, text, _ := s.short(n%2 == 0)
		p := parsed(t, text)
		if len(p.Print()) > api.MaxText {
			continue
		}
		again := parsed(t, p.Print())
		sameProgram(t, "P8.9", again, p)
		// In the one form each line's first token stands behind its blanks, or behind the brace of the line.
		for _, l := range again.Lines() {
			line := strings.Split(p.Print(), "\n")[l.At.Line-1]
			if !strings.HasPrefix(strings.TrimPrefix(strings.TrimSpace(line), "} "), l.Text) {
				t.Fatalf("P8.9: %v in line %q", l, line)
			}
		}
	}
}

func TestTokensAlone(t *testing.T) { // P8.10, W13
	s := &stream{88}
	other := []*strings.Replacer{
		strings.NewReplacer("-", "\u2212"), strings.NewReplacer("*", "\u00b7"), strings.NewReplacer("*", "\u00d7"), strings.NewReplacer("/", "\u00f7"), strings.NewReplacer(":=", "\u2254"), strings.NewReplacer("!=", "\u2260"),
		strings.NewReplacer(" ", "\n\t"), strings.NewReplacer(" ", "\u00a0\u3000"), strings.NewReplacer(" ", " # { := < \u00e9\n"), strings.NewReplacer("-", "\u2212", "*", "\u00d7", "/", "\u00f7", ":=", "\u2254", "!=", "\u2260", " ", "\r\n"),
	}
	for n := range 400 {
		l := s.words(s.program())
		if n%3 == 0 {
			l = append(s.spoilt(l), word{text: "-"})
		}
		plain, _ := s.lay(l, true)
		plain = glyph.Join(scan(plain))
		want, wantE, wantAt := lang.Parse(plain)
		for _, r := range other {
			text := r.Replace(plain)
			if len(text) > api.MaxText || len(plain) > api.MaxText {
				continue
			}
			got, e, at := lang.Parse(text)
			if e != wantE {
				t.Fatalf("P8.10: %q: %v; %q: %v", plain, wantE, text, e)
			}
			if e == api.OK {
				sameProgram(t, "P8.10", got, want)
				continue
			}
			// The same token, though elsewhere.
			if tokenAt(text, at) != tokenAt(plain, wantAt) {
				t.Fatalf("P8.10: %q: at %v; %q: at %v", plain, wantAt, text, at)
			}
		}
	}
}

// scan answers the tokens of a text.
func scan(text string) []api.Token {
	l, _, _ := glyph.Scan(text)
	return l
}

// tokenAt answers which token of a text stands at a place, from 0 on.
func tokenAt(text string, at api.Place) int {
	return slices.IndexFunc(scan(text), func(k api.Token) bool { return k.At == at })
}

// value answers an expression's value over few, as a text; the error, if it has none.
func value(text string, given []api.Whole) string {
	x, e := lang.Value(text, few, given)
	if e != api.OK {
		return e.Error()
	}
	return toBig(x).String()
}

func TestValueOfParts(t *testing.T) { // P8.11
	s := &stream{89}
	for n := range 3000 {
		given := s.wholes(len(few), 3)
		a, b, c := s.tree(n%4, few).short(), s.tree(n%3, few).short(), s.tree(n%3, few).short()
		va, vb := value(a, given), value(b, given)
		box := func(x string) string { return "(" + x + ")" }
		if got := value(box(box(a)), given); got != va {
			t.Fatalf("P8.11: %q is %s, in brackets %s", a, va, got)
		}
		_, e := lang.Value(a, few, given)
		_, e2 := lang.Value(b, few, given)
		if e == api.OK && e2 == api.OK && value(box(a)+"+"+box(b), given) != value(box(b)+"+"+box(a), given) {
			t.Fatalf("P8.11: %q + %q at %v", a, b, given)
		}
		if e == api.OK && (value("-"+box(a), given) != value("0-"+box(a), given) || value(box(a)+"-"+box(a), given) != "0") {
			t.Fatalf("P8.11: -(%s), or it less itself, at %v", a, given)
		}
		if e == api.OK && strings.TrimPrefix(value("-"+box(a), given), "-") != strings.TrimPrefix(va, "-") {
			t.Fatalf("P8.11: -(%s) at %v", a, given)
		}
		for _, sign := range []string{"+", "-", "*", "/", "%"} {
			bound := box(a) + sign + box(b)
			if value(bound+"+"+box(c), given) != value(box(bound)+"+"+box(box(c)), given) {
				t.Fatalf("P8.11: %q + %q at %v", bound, c, given)
			}
		}
		if vb != value("0 + "+box(b), given) || vb != value("1 * "+box(b), given) {
			t.Fatalf("P8.11: %q at %v", b, given)
		}
	}
}

func TestWrittenIsWorth(t *testing.T) { // P8.7, P8.11: what Expr writes has the value of what it read
	s := &stream{90}
	for n := range 2000 {
		given := s.wholes(len(few), 20)
		text := s.join(s.tokens(s.tree(n%6, few)))
		written, e, _ := lang.Expr(text, few)
		if len(text) > api.MaxText || len(written) > api.MaxText {
			continue
		}
		if e != api.OK || value(text, given) != value(written, given) {
			t.Fatalf("P8.7: %q is %s, %q is %s", text, value(text, given), written, value(written, given))
		}
	}
}
