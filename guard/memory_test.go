package guard_test

import (
	"fmt"
	"slices"
	"strings"
	"sync"
	"testing"

	"rafter/api"
	"rafter/guard"
)

// texts are expressions whose forms have several long numbers, some of them the same; and some that are refused, or have no form.
var texts = []string{
	"4294967297*x + 4294967297*y + 4294967297", "(x + y + 1) * 98765432109876543210", "98765432109876543210 * (x + y + 1)", "0 - (x + y + 1)", "-(x + 7)", "x", "y + 0", "0 + 5", "x*1 - 0", "4294967297", "4294967297 / 1", "4294967297 % 98765432109876543210", "x * 0", "x - x", "x * y", "x +", "z", "(x - x + 4294967297) * (y + 1)",
}

// lists answers the magnitudes of numbers.
func lists(l []api.Whole) [][]uint32 {
	var out [][]uint32
	for _, x := range l {
		out = append(out, x.Mag)
	}
	return out
}

// apart fails the test if two of these lists share memory, the room behind them included.
func apart(t *testing.T, what string, l [][]uint32) {
	t.Helper()
	for i, a := range l {
		full := a[:cap(a)]
		for j := range full {
			full[j] = uint32(i + 1)
		}
	}
	for i, a := range l {
		if slices.ContainsFunc(a[:cap(a)], func(x uint32) bool { return x != uint32(i+1) }) {
			t.Fatalf("R3: %s: two lists share memory", what)
		}
	}
}

// forms answers what all calls tell of a text, as a text.
func forms(text string) string {
	f, ok, e, at := guard.Affine(text, xy)
	r, has, eq, e2, at2 := guard.Cond(text+" = 3*x - 4294967297", xy)
	return fmt.Sprint(say(f), ok, e, at, say(r), has, eq, e2, at2)
}

func TestAnswersApart(t *testing.T) { // R3, R4: answers are written on, and later ones are the same
	for _, text := range texts {
		was := forms(text)
		f, _, _, _ := guard.Affine(text, xy)
		g, _, _, _ := guard.Affine(text, xy)
		r, _, _, _, _ := guard.Cond(text+" = 3*x - 4294967297", xy)
		apart(t, text, slices.Concat(lists(f), lists(g), lists(r)))
		for _, l := range [][]api.Whole{f, g, r} {
			for i := range l[:cap(l)] {
				l[:cap(l)][i] = api.Whole{Neg: true, Mag: []uint32{9}}
			}
		}
		if forms(text) != was {
			t.Fatalf("R4: %q: %s, and then %s", text, was, forms(text))
		}
	}
}

func TestHandedIn(t *testing.T) { // R3: names stay as they are, the room behind them too; nil and an empty list mean the same
	for _, text := range texts {
		vars := append(make([]string, 0, 4), "x", "y")
		vars[:4][2] = "spare"
		guard.Affine(text, vars)
		guard.Cond(text+" = 1", vars)
		guard.Cond(text, vars)
		if !slices.Equal(vars[:4], []string{"x", "y", "spare", ""}) {
			t.Fatalf("R3: %q: the names are %q", text, vars[:4])
		}
	}
	for _, none := range [][]string{nil, {}, make([]string, 0, 3)} {
		sameForm(t, "R3", "7*(2-1)", none, row("7"))
		sameRow(t, "R3", "7*(2-1) = 7", none, row("0"), true)
	}
}

const mixed = "vars x = 4294967297, y; x := x + 4294967297 * y; loop { x := x * y; choose { y := any; } or { while x = y { y := 7 / 2; } } } if x != 1 { } else { x := x / 2; }"

func TestProgramStays(t *testing.T) { // R3, R4: a program is asked, the answers are written on, and all is as it was
	p, other := parsed(t, mixed), parsed(t, mixed)
	draw := func() string {
		ok, at := guard.Pure(p)
		return fmt.Sprint(p.Vars(), p.Begins(), p.Lines(), p.Print(), guard.Hard(p), ok, at, guard.Hard(other))
	}
	was := draw()
	l := guard.Hard(p)
	if !slices.Equal(l, []int{3, 7, 9, 11}) {
		t.Fatalf("P9.4: %v", l)
	}
	for i := range l[:cap(l)] {
		l[:cap(l)][i] = -1
	}
	if draw() != was {
		t.Errorf("R3: what a program tells hangs on what became of Hard's answer")
	}
}

func TestSideBySide(t *testing.T) { // R4: calls made at the same time have nothing in common
	var want []string
	for _, text := range texts {
		want = append(want, forms(text))
	}
	p := parsed(t, mixed)
	var group sync.WaitGroup
	for range 8 {
		group.Go(func() {
			for range 20 {
				for i, text := range texts {
					if forms(text) != want[i] {
						t.Errorf("R4: %q side by side: %s", text, forms(text))
					}
				}
				if ok, at := guard.Pure(p); ok || at != placeOf(mixed, strings.Index(mixed, "x := x * y")) || len(guard.Hard(p)) != 4 {
					t.Errorf("R4: one program, asked side by side: %v at %v", ok, at)
				}
			}
		})
	}
	group.Wait()
}

func FuzzAffine(f *testing.F) { // P9.2, P9.7: run as a test, it goes through the seeds
	s := &stream{11}
	for n := range 200 {
		f.Add(s.tree(n%5, xy).short())
	}
	f.Fuzz(func(t *testing.T, text string) {
		sameAffineVerdict(t, text, xy)
		form, ok, e, _ := guard.Affine(text, xy)
		if e != api.OK {
			return
		}
		again, also, e, _ := guard.Affine("0+("+text+"\n)", xy)
		if e == api.OK && (ok != also || say(form) != say(again)) {
			t.Fatalf("P9.7: %q: %s, %v; in brackets %s, %v", text, say(form), ok, say(again), also)
		}
	})
}

func FuzzCond(f *testing.F) { // P9.3: run as a test, it goes through the seeds
	s := &stream{12}
	for n := range 200 {
		f.Add(s.spoilt(s.tree(n%4, xy).short() + s.pick("=", "!=", "\u2260") + s.tree(n%3, xy).short()))
	}
	f.Fuzz(func(t *testing.T, text string) { sameCondVerdict(t, text, xy) })
}
