package affine_test

import (
	"fmt"
	"math/big"
	"slices"
	"strings"
	"sync"
	"testing"
	"unsafe"

	"rafter/affine"
	"rafter/api"
)

// given is all that a call of the layer may be handed in.
type given struct {
	row, form, state []api.Whole
	ratios           []api.Ratio
	vars             []string
	v                int
}

// call is a call, and all that it answers: its numbers, and the rest as a text.
type call struct {
	name string
	ask  func(g given) ([]api.Whole, string)
}

// calls answers all calls of the layer that take lists.
func calls() []call {
	type many = []api.Whole
	text := "3/7*" // of some variable, so that the numbers are not all small
	return []call{
		{"Names", func(g given) (many, string) { return nil, fmt.Sprint(affine.Names(g.vars)) }},
		{"Equation", func(g given) (many, string) {
			x, e, p := affine.Equation(text+g.vars[0]+" = 4294967297 - "+g.vars[0], g.vars)
			return x, fmt.Sprint(e, p)
		}},
		{"Canon", func(g given) (many, string) { x, e := affine.Canon(g.ratios); return x, fmt.Sprint(e) }},
		{"Canonical", func(g given) (many, string) { return nil, fmt.Sprint(affine.Canonical(g.row)) }},
		{"Print", func(g given) (many, string) { x, e := affine.Print(g.row, g.vars); return nil, fmt.Sprint(x, e) }},
		{"Left", func(g given) (many, string) { x, e := affine.Left(g.row, g.state); return many{x}, fmt.Sprint(e) }},
		{"Value", func(g given) (many, string) { x, e := affine.Value(g.form, g.state); return many{x}, fmt.Sprint(e) }},
		{"Left of no variable", func(g given) (many, string) { x, e := affine.Left(g.row[:1], nil); return many{x}, fmt.Sprint(e) }},
		{"Value of no variable", func(g given) (many, string) { x, e := affine.Value(g.form[:1], nil); return many{x}, fmt.Sprint(e) }},
		{"Put", func(g given) (many, string) { x, e := affine.Put(g.row, g.v, g.form); return x, fmt.Sprint(e) }},
	}
}

// some answers what is handed in, in its one form: forms with factors 0 and 1, too, by which a number stays as it is.
func some() []given {
	s := &stream{31}
	var out []given
	for n := range 24 {
		count := 1 + n%4
		g := given{vars: few[:count], v: n % count}
		g.row, g.form, g.state = trimmed(s.wholes(count+1, 4)), trimmed(s.wholes(count+1, 4)), trimmed(s.wholes(count, 4))
		if n%3 == 0 {
			g.form = make([]api.Whole, count+1)
			g.form[g.v] = api.Whole{Mag: []uint32{1}}
		}
		if n%5 == 0 {
			g.row = s.canonical(count + 1)
		}
		for _, r := range s.ratios(count+1, 3) {
			g.ratios = append(g.ratios, ratioOf(toRat(r)))
		}
		if n%4 == 0 {
			g.ratios = nil
			for _, x := range s.canonical(count + 1) { // Canon of such a row is that row
				g.ratios = append(g.ratios, ratioOf(new(big.Rat).SetInt(toBig(x))))
			}
		}
		out = append(out, g)
	}
	return out
}

// trimmed answers numbers in their one form.
func trimmed(l []api.Whole) []api.Whole {
	var out []api.Whole
	for _, x := range l {
		out = append(out, wholeOf(toBig(x)))
	}
	return out
}

// wide answers limbs with noughts on top and spare room behind them, all of it written on.
func wide(a []uint32, noughts int) []uint32 {
	all := append(append(slices.Clone(a), make([]uint32, noughts)...), 0xdead, 0xbeef, 0xcafe)
	return all[:len(a)+noughts]
}

// wideRow answers numbers with limbs 0 on top, a sign of 0, and spare room everywhere.
func wideRow(l []api.Whole, noughts int) []api.Whole {
	var out []api.Whole
	for _, x := range l {
		out = append(out, api.Whole{Neg: x.Neg || len(x.Mag) == 0, Mag: wide(x.Mag, noughts)})
	}
	return append(out, row("77 -78")...)[:len(l)]
}

// other answers the same as g, handed in otherwise: with limbs 0 on top, signs of 0, fractions not in lowest terms, and spare room.
func other(g given, noughts int) given {
	out := given{row: wideRow(g.row, noughts), form: wideRow(g.form, noughts), state: wideRow(g.state, noughts), v: g.v}
	times := big.NewInt(int64(6*noughts + 1))
	for _, r := range g.ratios {
		over, under := toBig(r.Num), toNat(r.Den)
		num := wholeOf(over.Mul(over, times))
		out.ratios = append(out.ratios, api.Ratio{Num: wideRow([]api.Whole{num}, noughts)[0], Den: wide(natOf(under.Mul(under, times)), noughts)})
		if noughts > 0 && len(r.Num.Mag) == 0 {
			out.ratios[len(out.ratios)-1] = api.Ratio{Num: row("-5")[0], Den: []uint32{0, 0}} // over 0
		}
	}
	out.ratios = append(out.ratios, ratios("7 8/9")...)[:len(g.ratios)]
	out.vars = append(slices.Clone(g.vars), "spare", "room")[:len(g.vars)]
	return out
}

// lists answers all lists of limbs of g, with the room behind every list.
func (g given) lists() [][]uint32 {
	var out [][]uint32
	for _, l := range [][]api.Whole{g.row, g.form, g.state} {
		for _, x := range l[:cap(l)] {
			out = append(out, x.Mag)
		}
	}
	for _, r := range g.ratios[:cap(g.ratios)] {
		out = append(out, r.Num.Mag, r.Den)
	}
	return out
}

// picture answers all that g holds, with the room behind every list, as a text.
func (g given) picture() string {
	var out strings.Builder
	for _, l := range g.lists() {
		fmt.Fprint(&out, len(l), l[:cap(l)])
	}
	fmt.Fprint(&out, g.row[:cap(g.row)], g.form[:cap(g.form)], g.state[:cap(g.state)], g.ratios[:cap(g.ratios)], g.vars[:cap(g.vars)])
	return out.String()
}

// scribble writes over limbs and the room behind them.
func scribble(lists ...[]uint32) {
	for _, l := range lists {
		l = l[:cap(l)]
		for i := range l {
			l[i] ^= 0x5a5a5a5a
		}
	}
}

// scribbleRow writes over a row, its numbers' limbs, and the room behind all of them.
func scribbleRow(l []api.Whole) {
	l = l[:cap(l)]
	for i := range l {
		scribble(l[i].Mag)
		l[i] = api.Whole{Neg: true, Mag: []uint32{13}}
	}
}

// scribbleAll writes over all that g holds.
func scribbleAll(g given) {
	scribble(g.lists()...)
	scribbleRow(g.row)
	scribbleRow(g.form)
	scribbleRow(g.state)
	clear(g.ratios[:cap(g.ratios)])
	clear(g.vars[:cap(g.vars)])
}

// copied answers a row in memory of its own.
func copied(l []api.Whole) []api.Whole {
	var out []api.Whole
	for _, x := range l {
		out = append(out, api.Whole{Neg: x.Neg, Mag: slices.Clone(x.Mag)})
	}
	return out
}

// answersAre fails the test if two answers differ.
func answersAre(t *testing.T, what string, got []api.Whole, rest string, want []api.Whole, wantRest string) {
	t.Helper()
	if rest != wantRest || !equal(got, want) {
		t.Fatalf("%s: %v %s, want %v %s", what, got, rest, want, wantRest)
	}
}

func TestValuesAlone(t *testing.T) { // P5.10, R5
	for _, c := range calls() {
		for _, g := range some() {
			want, wantRest := c.ask(g)
			for _, noughts := range []int{0, 1, 3} {
				got, rest := c.ask(other(g, noughts))
				answersAre(t, fmt.Sprint("R5: ", c.name, g), got, rest, want, wantRest)
			}
			for _, x := range want {
				if n := len(x.Mag); n > 0 && x.Mag[n-1] == 0 || n == 0 && x.Neg {
					t.Fatalf("R5: %s of %v tells a number that has not its one form: %v", c.name, g, want)
				}
			}
		}
	}
}

func TestHandedIn(t *testing.T) { // P5.10, R3: what is handed in stays, the room behind it too, and is not kept
	for _, c := range calls() {
		for _, plain := range some() {
			for noughts := range 2 {
				g := other(plain, noughts)
				was := g.picture()
				got, rest := c.ask(g)
				want := copied(got)
				scribbleRow(got)
				if g.picture() != was {
					t.Fatalf("R3: %s of %v changes what is handed in, or answers a part of it", c.name, plain)
				}
				again, againRest := c.ask(g)
				scribbleAll(g)
				answersAre(t, "R3: "+c.name+" when what was handed in is written on", again, againRest, want, rest)
			}
		}
	}
}

func TestListsApart(t *testing.T) { // P5.10, R3: no two lists of an answer share memory
	for _, c := range calls() {
		for _, g := range some() {
			want, _ := c.ask(g)
			for i := range want {
				got, _ := c.ask(g)
				scribble(got[i].Mag)
				for j := range got {
					if j != i && !equalWhole(got[j], want[j]) {
						t.Fatalf("R3: %s of %v: its lists share memory", c.name, g)
					}
				}
			}
		}
	}
}

func TestOneListTwice(t *testing.T) { // R3: what is handed in may share its numbers
	for _, g := range some() {
		one := row("3 -4294967296 0 5 6")
		put, e := affine.Put(one, 1, one)
		want, _ := affine.Put(copied(one), 1, copied(one))
		answersAre(t, "R3: Put of one list twice", put, fmt.Sprint(e), want, "error 0")
		left, e := affine.Left(g.row, g.row[1:])
		wantLeft, _ := affine.Left(copied(g.row), copied(g.row[1:]))
		answersAre(t, "R3: Left of one list twice", []api.Whole{left}, fmt.Sprint(e), []api.Whole{wantLeft}, "error 0")
	}
}

func TestPrintedText(t *testing.T) { // R3: the text lies in no name that was handed in
	for _, s := range []string{"0 | 0", "1 | 0", "-1 | 1", "2 | 3"} {
		b := []byte("alpha")
		vars := []string{unsafe.String(unsafe.SliceData(b), len(b))}
		got, e := affine.Print(row(s), vars)
		want := strings.Clone(got)
		for i := range b {
			b[i] = '~'
		}
		if e != api.OK || got != want || strings.Contains(got, "~") {
			t.Errorf("R3: Print(%s), when the name was written on: %q", s, got)
		}
	}
}

func TestAnswersStay(t *testing.T) { // R4: no answer is touched by later calls, and none touches them
	for _, c := range calls() {
		for _, g := range some() {
			first, rest := c.ask(g)
			want := copied(first)
			for _, more := range calls() {
				l, _ := more.ask(g)
				scribbleRow(l)
			}
			later, laterRest := c.ask(g)
			answersAre(t, "R4: the first answer of "+c.name, first, rest, want, rest)
			answersAre(t, "R4: a later answer of "+c.name, later, laterRest, want, rest)
		}
	}
}

func TestSideBySide(t *testing.T) { // R4: calls made at the same time have nothing in common
	var group sync.WaitGroup
	inputs := some()
	for _, c := range calls() {
		for range 4 {
			group.Go(func() {
				for _, g := range inputs {
					got, rest := c.ask(g)
					for range 10 {
						more, moreRest := c.ask(g)
						if rest != moreRest || !equal(got, more) {
							t.Errorf("R4: %s of %v is not always the same", c.name, g)
						}
					}
				}
			})
		}
	}
	group.Wait()
}

func TestNothingBesideErrors(t *testing.T) { // R2
	for _, s := range texts() {
		l, e, p := affine.Equation(s, few)
		if (e == api.OK) != (len(l) == len(few)+1) || e != api.OK && len(l) > 0 || e == api.OK && p != (api.Place{}) {
			t.Fatalf("R2: Equation(%q) = %v, %v at %v", s, l, e, p)
		}
	}
}
