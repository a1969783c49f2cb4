package whole_test

import (
	"fmt"
	"slices"
	"sync"
	"testing"

	"rafter/api"
	"rafter/whole"
)

// call is a call with two numbers handed in, and all that it answers: numbers, and the rest as a text. A call of one number leaves y alone.
type call struct {
	name string
	ask  func(x, y api.Whole) ([]api.Whole, string)
}

// calls answers all calls of the layer that take numbers.
func calls() []call {
	type many = []api.Whole
	return []call{
		{"Int", func(x, y api.Whole) (many, string) { n, ok := whole.Int(x); return nil, fmt.Sprint(n, ok) }},
		{"Trim", func(x, y api.Whole) (many, string) { return many{whole.Trim(x)}, "" }},
		{"Sign", func(x, y api.Whole) (many, string) { return nil, fmt.Sprint(whole.Sign(x)) }},
		{"Limbs", func(x, y api.Whole) (many, string) { return nil, fmt.Sprint(whole.Limbs(x)) }},
		{"Cmp", func(x, y api.Whole) (many, string) { return nil, fmt.Sprint(whole.Cmp(x, y)) }},
		{"Neg", func(x, y api.Whole) (many, string) { return many{whole.Neg(x)}, "" }},
		{"Add", func(x, y api.Whole) (many, string) { return many{whole.Add(x, y)}, "" }},
		{"Sub", func(x, y api.Whole) (many, string) { return many{whole.Sub(x, y)}, "" }},
		{"Mul", func(x, y api.Whole) (many, string) { return many{whole.Mul(x, y)}, "" }},
		{"DivMod", func(x, y api.Whole) (many, string) { q, r, ok := whole.DivMod(x, y); return many{q, r}, fmt.Sprint(ok) }},
		{"Gcd", func(x, y api.Whole) (many, string) { return many{whole.Gcd(x, y)}, "" }},
		{"Sum of one", func(x, y api.Whole) (many, string) { return many{whole.Sum(x)}, "" }},
		{"Sum", func(x, y api.Whole) (many, string) { return many{whole.Sum(x, y, x)}, "" }},
		{"Text", func(x, y api.Whole) (many, string) { return nil, whole.Text(x) }},
	}
}

// few answers numbers in their one form, some of them long.
func few() []api.Whole {
	s := &stream{7}
	out := []api.Whole{{}, num("1"), num("-1"), num("6"), num("-9"), num("4294967296"), num("-18446744073709551615")}
	for range 4 {
		out = append(out, whole.Trim(s.upTo(9)))
	}
	return out
}

// forms answers x as it may be handed in: with limbs 0 on top, and 0 with a sign.
func forms(x api.Whole) []api.Whole {
	out := []api.Whole{{Neg: x.Neg, Mag: slices.Clone(x.Mag)}}
	for _, noughts := range []int{1, 2, 5} {
		out = append(out, api.Whole{Neg: x.Neg, Mag: append(slices.Clone(x.Mag), make([]uint32, noughts)...)})
	}
	if len(x.Mag) == 0 {
		out = append(out, api.Whole{Neg: true}, api.Whole{Neg: true, Mag: []uint32{}}, api.Whole{Mag: []uint32{}}, api.Whole{Neg: true, Mag: []uint32{0, 0}})
	}
	return out
}

// answersAre fails the test if two answers differ.
func answersAre(t *testing.T, what string, got []api.Whole, gotRest string, want []api.Whole, wantRest string) {
	t.Helper()
	if gotRest != wantRest || !slices.EqualFunc(got, want, equal) {
		t.Fatalf("%s: %v %s, want %v %s", what, got, gotRest, want, wantRest)
	}
}

func TestValuesAlone(t *testing.T) { // P2.8, R5
	for _, c := range calls() {
		for _, x := range few() {
			for _, y := range few() {
				want, wantRest := c.ask(x, y)
				for _, n := range want {
					same(t, fmt.Sprint("R5: the form of ", c.name, x, y), n, whole.Trim(n))
				}
				for _, x := range forms(x) {
					for _, y := range forms(y) {
						got, rest := c.ask(x, y)
						answersAre(t, fmt.Sprint("P2.8: ", c.name, x, y), got, rest, want, wantRest)
					}
				}
			}
		}
	}
}

// roomy answers x with limbs 0 on top and spare room behind them, all of it written on.
func roomy(x api.Whole, noughts int) api.Whole {
	all := append(append(slices.Clone(x.Mag), make([]uint32, noughts)...), 0xdead, 0xbeef, 0xcafe)
	return api.Whole{Neg: x.Neg, Mag: all[:len(x.Mag)+noughts]}
}

// scribble writes over a number's limbs and the room behind them.
func scribble(x api.Whole) {
	mag := x.Mag[:cap(x.Mag)]
	for i := range mag {
		mag[i] ^= 0x5a5a5a5a
	}
}

// copies answers numbers with limbs of their own.
func copies(l []api.Whole) []api.Whole {
	var out []api.Whole
	for _, x := range l {
		out = append(out, api.Whole{Neg: x.Neg, Mag: slices.Clone(x.Mag)})
	}
	return out
}

func TestHandedIn(t *testing.T) { // R3: what is handed in stays, the room behind it too, and is not kept
	for _, c := range calls() {
		for _, given := range few() {
			for _, other := range few() {
				for noughts := range 3 {
					x, y := roomy(given, noughts), roomy(other, noughts)
					wasX, wasY := slices.Clone(x.Mag[:cap(x.Mag)]), slices.Clone(y.Mag[:cap(y.Mag)])
					got, rest := c.ask(x, y)
					want := copies(got)
					for _, n := range got {
						scribble(n)
					}
					if !slices.Equal(x.Mag[:cap(x.Mag)], wasX) || !slices.Equal(y.Mag[:cap(y.Mag)], wasY) {
						t.Fatalf("R3: %s of %v and %v changes what is handed in, or answers a part of it", c.name, given, other)
					}
					again, againRest := c.ask(x, y)
					scribble(x)
					scribble(y)
					answersAre(t, "R3: "+c.name+" when what was handed in is written on", again, againRest, want, rest)
				}
			}
		}
	}
}

func TestListHandedIn(t *testing.T) { // R3: Sum leaves the list as it is
	all := append(few(), num("99"))
	l := all[:len(all)-1]
	want := copies(all)
	whole.Sum(l...)
	if !slices.EqualFunc(all, want, equal) {
		t.Error("R3: Sum changes its list")
	}
}

func TestNumbersApart(t *testing.T) { // R3: no two lists of an answer share memory
	for _, x := range few() {
		for _, y := range few() {
			q, r, _ := whole.DivMod(x, y)
			want := copies([]api.Whole{q, r})
			scribble(q)
			same(t, fmt.Sprint("R3: what is left of ", x, y), r, want[1])
			q, r, _ = whole.DivMod(x, y)
			scribble(r)
			same(t, fmt.Sprint("R3: the quotient of ", x, y), q, want[0])
		}
	}
}

func TestOneNumberTwice(t *testing.T) { // R3: the two numbers handed in may share their limbs
	for _, c := range calls() {
		for _, x := range few() {
			got, rest := c.ask(x, x)
			want, wantRest := c.ask(copies([]api.Whole{x})[0], copies([]api.Whole{x})[0])
			answersAre(t, "R3: "+c.name+" of one number twice", got, rest, want, wantRest)
		}
	}
}

func TestAnswersStay(t *testing.T) { // R4: no answer is touched by later calls
	scribble(whole.Of(-5))
	same(t, "R4: Of", whole.Of(-5), num("-5"))
	parsed, _ := whole.Parse("-5")
	scribble(parsed)
	parsed, _ = whole.Parse("-5")
	same(t, "R4: Parse", parsed, num("-5"))
	scribble(whole.Sum())
	same(t, "R4: Sum", whole.Sum(), api.Whole{})
}

func TestSideBySide(t *testing.T) { // R4: calls made at the same time have nothing in common
	var group sync.WaitGroup
	for _, c := range calls() {
		for range 4 {
			group.Go(func() {
				for _, x := range few() {
					got, rest := c.ask(x, num("-77"))
					for range 20 {
						more, moreRest := c.ask(x, num("-77"))
						if rest != moreRest || !slices.EqualFunc(got, more, equal) {
							t.Errorf("R4: %s of %v is not always the same", c.name, x)
						}
					}
				}
			})
		}
	}
	group.Wait()
}
