package ratio_test

import (
	"fmt"
	"slices"
	"sync"
	"testing"

	"rafter/api"
	"rafter/ratio"
)

// call is a call with two fractions handed in, and all that it answers: its lists of limbs, and the rest as a text. A call of one fraction leaves s alone.
type call struct {
	name string
	ask  func(r, s api.Ratio) ([][]uint32, string)
}

// calls answers all calls of the layer that take numbers.
func calls() []call {
	type many = [][]uint32
	told := func(x api.Ratio, rest ...any) (many, string) {
		return many{x.Num.Mag, x.Den}, fmt.Sprint(append(rest, x.Num.Neg)...)
	}
	plain := func(rest any) (many, string) { return nil, fmt.Sprint(rest) }
	return []call{
		{"Of", func(r, s api.Ratio) (many, string) { x, e := ratio.Of(r.Num, s.Num); return told(x, e) }},
		{"From", func(r, s api.Ratio) (many, string) { return told(ratio.From(r.Num)) }},
		{"Trim", func(r, s api.Ratio) (many, string) { return told(ratio.Trim(r)) }},
		{"Sign", func(r, s api.Ratio) (many, string) { return plain(ratio.Sign(r)) }},
		{"Limbs", func(r, s api.Ratio) (many, string) { return plain(ratio.Limbs(r)) }},
		{"Cmp", func(r, s api.Ratio) (many, string) { return plain(ratio.Cmp(r, s)) }},
		{"Neg", func(r, s api.Ratio) (many, string) { return told(ratio.Neg(r)) }},
		{"Add", func(r, s api.Ratio) (many, string) { return told(ratio.Add(r, s)) }},
		{"Sub", func(r, s api.Ratio) (many, string) { return told(ratio.Sub(r, s)) }},
		{"Mul", func(r, s api.Ratio) (many, string) { return told(ratio.Mul(r, s)) }},
		{"Div", func(r, s api.Ratio) (many, string) { x, e := ratio.Div(r, s); return told(x, e) }},
		{"Floor", func(r, s api.Ratio) (many, string) { return told(api.Ratio{Num: ratio.Floor(r)}) }},
		{"Whole", func(r, s api.Ratio) (many, string) { x, ok := ratio.Whole(r); return told(api.Ratio{Num: x}, ok) }},
		{"Text", func(r, s api.Ratio) (many, string) { return plain(ratio.Text(r)) }},
	}
}

// few answers fractions in their one form, some of them long.
func few() []api.Ratio {
	s := &stream{8}
	out := []api.Ratio{frac("0"), frac("1"), frac("-1"), frac("6"), frac("-9/4"), frac("4294967296/3"), frac("-3/18446744073709551616")}
	for range 3 {
		out = append(out, fromBig(toBig(api.Ratio{Num: s.whole(9), Den: append(s.nat(8), 5)})))
	}
	return out
}

// forms answers r as it may be handed in: with limbs 0 on top, 0 with a sign or over 0.
func forms(r api.Ratio) []api.Ratio {
	out := []api.Ratio{copied(r)}
	for _, noughts := range []int{1, 4} {
		wide := copied(r)
		wide.Num.Mag = append(wide.Num.Mag, make([]uint32, noughts)...)
		wide.Den = append(wide.Den, make([]uint32, 2*noughts)...)
		out = append(out, wide)
	}
	if len(r.Num.Mag) == 0 {
		out = append(out, api.Ratio{}, api.Ratio{Num: api.Whole{Neg: true, Mag: []uint32{}}, Den: []uint32{}}, api.Ratio{Num: api.Whole{Neg: true}, Den: []uint32{0, 5}})
	}
	return out
}

// copied answers r in memory of its own.
func copied(r api.Ratio) api.Ratio {
	return api.Ratio{Num: api.Whole{Neg: r.Num.Neg, Mag: slices.Clone(r.Num.Mag)}, Den: slices.Clone(r.Den)}
}

// copies answers lists of their own.
func copies(lists [][]uint32) [][]uint32 {
	var out [][]uint32
	for _, l := range lists {
		out = append(out, slices.Clone(l))
	}
	return out
}

// answersAre fails the test if two answers differ.
func answersAre(t *testing.T, what string, got [][]uint32, gotRest string, want [][]uint32, wantRest string) {
	t.Helper()
	if gotRest != wantRest || !slices.EqualFunc(got, want, slices.Equal) {
		t.Fatalf("%s: %v %s, want %v %s", what, got, gotRest, want, wantRest)
	}
}

func TestValuesAlone(t *testing.T) { // P3.6, R5
	for _, c := range calls() {
		for _, r := range few() {
			for _, s := range few() {
				want, wantRest := c.ask(r, s)
				for _, r := range forms(r) {
					for _, s := range forms(s) {
						got, rest := c.ask(r, s)
						answersAre(t, fmt.Sprint("R5: ", c.name, r, s), got, rest, want, wantRest)
					}
				}
			}
		}
	}
}

func TestValuesOverZero(t *testing.T) { // what stands over 0 counts as 0, in every place (Of and From take its numerator alone)
	for _, c := range calls()[2:] {
		for _, r := range few() {
			nought, none := api.Ratio{Num: num("-77"), Den: []uint32{0}}, frac("0")
			got, rest := c.ask(nought, r)
			want, wantRest := c.ask(none, r)
			answersAre(t, fmt.Sprint("R5: over 0, first: ", c.name, r), got, rest, want, wantRest)
			got, rest = c.ask(r, nought)
			want, wantRest = c.ask(r, none)
			answersAre(t, fmt.Sprint("R5: over 0, second: ", c.name, r), got, rest, want, wantRest)
		}
	}
}

func TestValuesTimes(t *testing.T) { // R5: a fraction not in lowest terms turns nothing (Of and From take its numerator alone)
	for _, c := range calls()[2:] {
		for _, r := range few() {
			for _, s := range few() {
				want, wantRest := c.ask(r, s)
				got, rest := c.ask(times(r, "6"), times(s, "18446744073709551617"))
				answersAre(t, fmt.Sprint("R5: not in lowest terms: ", c.name, r, s), got, rest, want, wantRest)
			}
		}
	}
}

// times answers r with both its terms n times as great.
func times(r api.Ratio, n string) api.Ratio {
	x, by := wholeBig(r.Num), wholeBig(num(n))
	return api.Ratio{Num: wholeOf(x.Mul(x, by)), Den: natOf(by.Mul(by, natBig(r.Den)))}
}

// roomy answers r with limbs 0 on top and spare room behind them, all of it written on.
func roomy(r api.Ratio, noughts int) api.Ratio {
	wide := func(a []uint32) []uint32 {
		all := append(append(slices.Clone(a), make([]uint32, noughts)...), 0xdead, 0xbeef, 0xcafe)
		return all[:len(a)+noughts]
	}
	return api.Ratio{Num: api.Whole{Neg: r.Num.Neg, Mag: wide(r.Num.Mag)}, Den: wide(r.Den)}
}

// room answers all limbs of r, those behind its lists too.
func room(r api.Ratio) []uint32 {
	return slices.Concat(r.Num.Mag[:cap(r.Num.Mag)], r.Den[:cap(r.Den)])
}

// scribble writes over lists and the room behind them.
func scribble(lists ...[]uint32) {
	for _, l := range lists {
		l = l[:cap(l)]
		for i := range l {
			l[i] ^= 0x5a5a5a5a
		}
	}
}

func TestHandedIn(t *testing.T) { // R3: what is handed in stays, the room behind it too, and is not kept
	for _, c := range calls() {
		for _, given := range few() {
			for _, other := range few() {
				for noughts := range 2 {
					r, s := roomy(given, noughts), roomy(other, noughts)
					wasR, wasS := room(r), room(s)
					got, rest := c.ask(r, s)
					want := copies(got)
					scribble(got...)
					if !slices.Equal(room(r), wasR) || !slices.Equal(room(s), wasS) {
						t.Fatalf("R3: %s of %v and %v changes what is handed in, or answers a part of it", c.name, given, other)
					}
					again, againRest := c.ask(r, s)
					scribble(r.Num.Mag, r.Den, s.Num.Mag, s.Den)
					answersAre(t, "R3: "+c.name+" when what was handed in is written on", again, againRest, want, rest)
				}
			}
		}
	}
}

func TestListsApart(t *testing.T) { // R3: no two lists of an answer share memory
	for _, c := range calls() {
		for _, r := range few() {
			for _, s := range few() {
				want, _ := c.ask(r, s)
				for i := range want {
					got, _ := c.ask(r, s)
					scribble(got[i])
					for j := range got {
						if j != i && !slices.Equal(got[j], want[j]) {
							t.Fatalf("R3: %s of %v and %v: its lists share memory", c.name, r, s)
						}
					}
				}
			}
		}
	}
}

func TestOneListTwice(t *testing.T) { // R3: what is handed in may share its limbs
	for _, c := range calls() {
		for _, r := range few() {
			one := api.Ratio{Num: api.Whole{Neg: r.Num.Neg, Mag: r.Den}, Den: r.Den}
			got, rest := c.ask(one, one)
			want, wantRest := c.ask(copied(one), copied(one))
			answersAre(t, "R3: "+c.name+" of one list four times", got, rest, want, wantRest)
		}
	}
}

func TestAnswersStay(t *testing.T) { // R4: no answer is touched by later calls
	for _, s := range []string{"-5", "0", "-5/3"} {
		for range 2 {
			r, _ := ratio.Parse(s)
			same(t, "R4: Parse "+s, r, frac(s))
			scribble(r.Num.Mag, r.Den)
		}
	}
	for _, c := range calls() {
		for _, r := range few() {
			first, rest := c.ask(r, frac("-9/7"))
			want := copies(first)
			for _, other := range calls() {
				other.ask(frac("8/5"), r)
			}
			later, laterRest := c.ask(r, frac("-9/7"))
			answersAre(t, "R4: the first answer of "+c.name, first, rest, want, rest)
			answersAre(t, "R4: a later answer of "+c.name, later, laterRest, want, rest)
		}
	}
}

func TestSideBySide(t *testing.T) { // R4: calls made at the same time have nothing in common
	var group sync.WaitGroup
	for _, c := range calls() {
		for range 4 {
			group.Go(func() {
				for _, r := range few() {
					got, rest := c.ask(r, frac("-77/6"))
					for range 20 {
						more, moreRest := c.ask(r, frac("-77/6"))
						if rest != moreRest || !slices.EqualFunc(got, more, slices.Equal) {
							t.Errorf("R4: %s of %v is not always the same", c.name, r)
						}
					}
				}
			})
		}
	}
	group.Wait()
}
