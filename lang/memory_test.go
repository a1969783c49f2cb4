package lang_test

import (
	"fmt"
	"slices"
	"strings"
	"sync"
	"testing"
	"unsafe"

	"rafter/api"
	"rafter/lang"
)

// borrowed answers a text that lies in b, so that it can be written over when a call has answered.
func borrowed(b []byte) string { return unsafe.String(unsafe.SliceData(b), len(b)) }

// wipe writes over bytes.
func wipe(b []byte) {
	for i := range b {
		b[i] = '~'
	}
}

// picture answers all that a program tells, as a text.
func picture(p *lang.Program) string {
	return fmt.Sprint(p.Vars(), p.Begins(), p.Lines(), p.Print())
}

// scribble asks a program all, and writes over what it answers, and over the room behind.
func scribble(p *lang.Program) {
	vars, begins, lines := p.Vars(), p.Begins(), p.Lines()
	for _, b := range begins[:cap(begins)] {
		for i := range b.Value.Mag[:cap(b.Value.Mag)] {
			b.Value.Mag[:cap(b.Value.Mag)][i] ^= 0x5a5a5a5a
		}
	}
	for i := range vars[:cap(vars)] {
		vars[:cap(vars)][i] = "no"
	}
	for i := range begins[:cap(begins)] {
		begins[:cap(begins)][i] = api.Begin{Name: "no"}
	}
	for i := range lines[:cap(lines)] {
		lines[:cap(lines)][i] = api.Line{Kind: -1}
	}
}

const full = "vars x = -4294967296, y, z = 77, w = 77; x := 12345678901234567890 * (x - y); loop { y := any; } if x = 1 { mark m; } else { stop; } choose { skip; } or { } while z != w { }"

func TestAnswersApart(t *testing.T) { // R3, R4: what a program told is written on, and it tells the same
	p, other := parsed(t, full), parsed(t, full)
	want := picture(p)
	scribble(p)
	if picture(p) != want || picture(other) != want {
		t.Error("R3: what a program tells hangs on what became of its answers")
	}
	begins := p.Begins() // no two lists of one answer share memory
	begins[2].Value.Mag[0] = 5
	if begins[3].Value.Mag[0] != 77 || begins[0].Value.Mag[0] != 0 {
		t.Errorf("R3: lists of one answer share memory: %v", begins)
	}
}

func TestTextNotKept(t *testing.T) { // R3: the text is written on, when Parse or Expr has answered
	for _, text := range append(spoiltTexts(91, 300), full) {
		b := []byte(text)
		p, e, at := lang.Parse(borrowed(b))
		if string(b) != text {
			t.Fatalf("R3: %q is changed", text)
		}
		wipe(b)
		want, wantE, wantAt := lang.Parse(text)
		if e != wantE || at != wantAt {
			t.Fatalf("R4: %q: %v at %v, and %v at %v", text, e, at, wantE, wantAt)
		}
		if e == api.OK && picture(p) != picture(want) {
			t.Fatalf("R3: %q, when the text was written on: %s", text, p.Print())
		}
	}
	for _, text := range []string{"alpha", "0", "12", "alpha - 3"} {
		b, name := []byte(text), []byte("alpha")
		vars := []string{borrowed(name)}
		got, e, _ := lang.Expr(borrowed(b), vars)
		wipe(b)
		wipe(name)
		if e != api.OK || got != text {
			t.Errorf("R3: Expr(%q), when text and names were written on: %q", text, got)
		}
	}
}

func TestHandedIn(t *testing.T) { // R3, R5: names and numbers stay as they are, the room behind them too
	texts := []string{"x", "y", "-x", "x + y", "x - x", "x * y", "x / y", "x % y", "y - 0", "x * 1", "7", "1 / 0", "x * * y", "z", "0 + y"}
	for _, text := range texts {
		for zeros := range 3 {
			vars := append(make([]string, 0, 4), "x", "y")
			given := make([]api.Whole, 2, 4)
			for i, n := range []string{"-98765432109876543210", "4294967299"} {
				given[i] = whole(n)
				given[i].Mag = append(given[i].Mag, make([]uint32, zeros, zeros+2)...)
			}
			given[:4][2] = api.Whole{Neg: true, Mag: []uint32{9}}
			draw := func() string {
				return fmt.Sprint(vars[:4], given[:4], given[0].Mag[:cap(given[0].Mag)], given[1].Mag[:cap(given[1].Mag)])
			}
			was := draw()
			got, e := lang.Value(text, vars, given)
			want, wantE := lang.Value(text, []string{"x", "y"}, state("-98765432109876543210 4294967299"))
			if e != wantE || !equalWhole(got, want) {
				t.Fatalf("R5: Value(%q) with limbs 0 on top: %v, %v; want %v, %v", text, got, e, want, wantE)
			}
			for i := range got.Mag[:cap(got.Mag)] {
				got.Mag[:cap(got.Mag)][i] = 13
			}
			lang.Expr(text, vars)
			if draw() != was {
				t.Fatalf("R3: %q changes what is handed in, or answers a part of it", text)
			}
		}
	}
	signed := []api.Whole{{Neg: true}, {Neg: true, Mag: []uint32{0, 0}}} // R5: a sign of 0 is none
	for _, text := range []string{"x", "-x", "x + y", "x * 5", "y % 3", "x - y", "-y * 2"} {
		if got, e := lang.Value(text, []string{"x", "y"}, signed); e != api.OK || got.Neg || len(got.Mag) > 0 {
			t.Errorf("R5: Value(%q) at 0 with a sign: %v, %v", text, got, e)
		}
	}
	if _, e := lang.Value("1 / x", []string{"x"}, signed[1:]); e != api.ErrDivide {
		t.Errorf("R5: 1 / x at 0 with a sign and limbs: %v", e)
	}
}

func TestSideBySide(t *testing.T) { // R4: calls made at the same time have nothing in common
	texts := append(spoiltTexts(92, 60), full)
	shared := parsed(t, full)
	want := picture(shared)
	var group sync.WaitGroup
	for range 8 {
		group.Go(func() {
			for _, text := range texts {
				p, e, at := lang.Parse(text)
				wantE, wantAt := verdict("program", text, nil)
				if e != wantE || at != wantAt {
					t.Errorf("R4: %q side by side: %v at %v", text, e, at)
				}
				if e == api.OK {
					scribble(p)
				}
				if picture(shared) != want {
					t.Error("R4: one program, asked side by side, does not always tell the same")
				}
			}
		})
	}
	group.Wait()
}

func TestNothingBesideErrors(t *testing.T) { // R2
	for _, text := range spoiltTexts(93, 500) {
		p, e, at := lang.Parse(text)
		if (e == api.OK) != (p != nil) || (e == api.OK) != (at == api.Place{}) {
			t.Fatalf("R2: Parse(%q) = %v, %v at %v", text, p, e, at)
		}
		if p == nil {
			continue
		}
		for _, b := range p.Begins() {
			if n := len(b.Value.Mag); b.Any && (b.Value.Neg || n > 0) || n > 0 && b.Value.Mag[n-1] == 0 || n == 0 && b.Value.Neg {
				t.Fatalf("R2, R5: %q: %v", text, p.Begins())
			}
		}
	}
}

func FuzzParse(f *testing.F) { // P8.3, P8.9: run as a test, it goes through the seeds
	for _, text := range spoiltTexts(94, 200) {
		f.Add(text)
	}
	f.Fuzz(func(t *testing.T, text string) {
		sameVerdict(t, text)
		p, e, _ := lang.Parse(text)
		if e != api.OK || len(p.Print()) > api.MaxText {
			return
		}
		sameProgram(t, "P8.9", parsed(t, p.Print()), p)
	})
}

func FuzzExpr(f *testing.F) { // P8.7, P8.8: run as a test, it goes through the seeds
	s := &stream{95}
	for n := range 200 {
		f.Add(s.join(s.tokens(s.tree(n%5, few))))
	}
	f.Fuzz(func(t *testing.T, text string) {
		sameExprVerdict(t, text, few)
		written, e, _ := lang.Expr(text, few)
		if e != api.OK || len(written) > api.MaxText {
			return
		}
		given := state("-3 2 0 4294967296")
		if again, e, _ := lang.Expr(written, few); e != api.OK || again != written || value(text, given) != value(written, given) {
			t.Fatalf("P8.7: %q is written as %q, and that as %q, %v", text, written, again, e)
		}
		if slices.Contains(words, strings.TrimSpace(text)) {
			t.Fatalf("P8.7: %q is no expression", text)
		}
	})
}
