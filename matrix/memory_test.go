package matrix_test

import (
	"fmt"
	"slices"
	"strings"
	"sync"
	"testing"

	"rafter/api"
	"rafter/matrix"
)

// given is all that a call of the layer may be handed in.
type given struct {
	rows     [][]api.Whole
	cols     int
	v, right []api.Whole
}

// answer is all that a call answers: lists of numbers, fractions, and the rest as a text.
type answer struct {
	rows   [][]api.Whole
	ratios []api.Ratio
	rest   string
}

// call is a call by its name.
type call struct {
	name string
	ask  func(g given) answer
}

// calls answers all calls of the layer. Det is asked of as many rows as there are columns.
func calls() []call {
	return []call{
		{"Echelon", func(g given) answer {
			l, e := matrix.Echelon(g.rows, g.cols)
			return answer{rows: l, rest: fmt.Sprint(e)}
		}},
		{"Rank", func(g given) answer { n, e := matrix.Rank(g.rows, g.cols); return answer{rest: fmt.Sprint(n, e)} }},
		{"Kernel", func(g given) answer {
			l, e := matrix.Kernel(g.rows, g.cols)
			return answer{rows: l, rest: fmt.Sprint(e)}
		}},
		{"Inside", func(g given) answer {
			in, e := matrix.Inside(g.rows, g.cols, g.v)
			return answer{rest: fmt.Sprint(in, e)}
		}},
		{"Solve", func(g given) answer {
			l, ok, e := matrix.Solve(g.rows, g.cols, g.right)
			return answer{ratios: l, rest: fmt.Sprint(ok, e)}
		}},
		{"Det", func(g given) answer {
			x, e := matrix.Det(g.rows[:min(len(g.rows), g.cols)], g.cols)
			return answer{rows: [][]api.Whole{{x}}, rest: fmt.Sprint(e)}
		}},
	}
}

// inputs answers what is handed in, in its one form; some of it is in echelon form already, and so answered as it is.
func inputs() []given {
	s := &stream{20}
	var out []given
	for n := range 40 {
		g := given{cols: 1 + n%5}
		g.rows = trimmed(s.matrix(n%7, g.cols, n%4))
		if n%3 == 0 {
			g.rows, _ = echelonOf(g.rows, g.cols)
		}
		g.v = trimmed([][]api.Whole{s.mixed(g.rows, g.cols)})[0]
		point := s.wholes(g.cols, 2)
		for _, l := range g.rows {
			g.right = append(g.right, wholeOf(makes(l, point)))
		}
		out = append(out, g)
	}
	for _, m := range []string{"1", "5", "M", "1 0; 0 1", "1 0 0; 0 1 0; 0 0 1", "2 1; 0 3", "7 9", "0 4294967296; 3 0", "P 1; 1 P"} {
		l := rows(m)
		out = append(out, given{l, len(l[0]), l[0], row(strings.Repeat("4294967297 ", len(l)))})
	}
	return out
}

// trimmed answers numbers in their one form.
func trimmed(m [][]api.Whole) [][]api.Whole {
	var out [][]api.Whole
	for _, l := range m {
		var r []api.Whole
		for _, x := range l {
			r = append(r, wholeOf(toBig(x)))
		}
		out = append(out, r)
	}
	return out
}

// wideRow answers numbers with limbs 0 on top, a sign of 0, and spare room everywhere, all of it written on.
func wideRow(l []api.Whole, noughts int) []api.Whole {
	var out []api.Whole
	for _, x := range l {
		all := append(append(slices.Clone(x.Mag), make([]uint32, noughts)...), 0xdead, 0xbeef, 0xcafe)
		out = append(out, api.Whole{Neg: x.Neg || len(x.Mag) == 0, Mag: all[:len(x.Mag)+noughts]})
	}
	return append(out, row("77 -78")...)[:len(l)]
}

// otherwise answers the same as g, handed in otherwise: with limbs 0 on top, signs of 0, and spare room.
func otherwise(g given, noughts int) given {
	out := given{cols: g.cols, v: wideRow(g.v, noughts), right: wideRow(g.right, noughts)}
	for _, l := range g.rows {
		out.rows = append(out.rows, wideRow(l, noughts))
	}
	out.rows = append(out.rows, row("5 6 7"), row("8"))[:len(g.rows)]
	return out
}

// all answers all rows of g, with those in the room behind the list, each with the room behind it.
func (g given) all() [][]api.Whole {
	out := [][]api.Whole{g.v[:cap(g.v)], g.right[:cap(g.right)]}
	for _, l := range g.rows[:cap(g.rows)] {
		out = append(out, l[:cap(l)])
	}
	return out
}

// picture answers all that g holds, with the room behind every list, as a text.
func (g given) picture() string {
	var out strings.Builder
	for _, l := range g.rows[:cap(g.rows)] {
		fmt.Fprint(&out, len(l), cap(l), " ")
	}
	for _, l := range g.all() {
		for _, x := range l {
			fmt.Fprint(&out, x.Neg, len(x.Mag), x.Mag[:cap(x.Mag)])
		}
	}
	return out.String()
}

// scribble writes over limbs and the room behind them.
func scribble(a []uint32) {
	a = a[:cap(a)]
	for i := range a {
		a[i] ^= 0x5a5a5a5a
	}
}

// scribbleRow writes over a row, its numbers' limbs, and the room behind all of them.
func scribbleRow(l []api.Whole) {
	l = l[:cap(l)]
	for i := range l {
		scribble(l[i].Mag)
		l[i] = api.Whole{Neg: true, Mag: []uint32{13}}
	}
}

// scribbleAll writes over all that g holds.
func scribbleAll(g given) {
	for _, l := range g.all() {
		scribbleRow(l)
	}
	clear(g.rows[:cap(g.rows)])
}

// scribbleAnswer writes over all that was answered.
func scribbleAnswer(a answer) {
	for _, l := range a.rows[:cap(a.rows)] {
		scribbleRow(l)
	}
	clear(a.rows[:cap(a.rows)])
	for _, r := range a.ratios {
		scribble(r.Num.Mag)
		scribble(r.Den)
	}
	clear(a.ratios[:cap(a.ratios)])
}

// limbsOf answers all lists of limbs of an answer.
func limbsOf(a answer) [][]uint32 {
	var out [][]uint32
	for _, l := range a.rows {
		for _, x := range l {
			out = append(out, x.Mag)
		}
	}
	for _, r := range a.ratios {
		out = append(out, r.Num.Mag, r.Den)
	}
	return out
}

// say answers an answer as a text, field for field; an empty list is like none.
func say(a answer) string {
	var out strings.Builder
	for _, l := range a.rows {
		fmt.Fprint(&out, len(l), ":")
		for _, x := range l {
			fmt.Fprint(&out, x.Neg, x.Mag)
		}
	}
	for _, r := range a.ratios {
		fmt.Fprint(&out, r.Num.Neg, r.Num.Mag, r.Den)
	}
	return out.String() + " " + a.rest
}

// answered fails the test if an answer is not as it must be.
func answered(t *testing.T, what string, got answer, want string) {
	t.Helper()
	if say(got) != want {
		t.Fatalf("%s: %s, want %s", what, say(got), want)
	}
}

func TestValuesAlone(t *testing.T) { // R5
	for _, c := range calls() {
		for _, g := range inputs() {
			want := c.ask(g)
			for _, noughts := range []int{0, 1, 40} {
				answered(t, fmt.Sprint("R5: ", c.name, g), c.ask(otherwise(g, noughts)), say(want))
			}
			for _, l := range limbsOf(want) {
				if n := len(l); n > 0 && l[n-1] == 0 {
					t.Fatalf("R5: %s of %v: a limb 0 on top", c.name, g)
				}
			}
			for _, l := range want.rows {
				if slices.ContainsFunc(l, func(x api.Whole) bool { return x.Neg && len(x.Mag) == 0 }) {
					t.Fatalf("R5: %s of %v: a sign of 0", c.name, g)
				}
			}
		}
	}
}

func TestNoListAndEmpty(t *testing.T) { // R3: nil and an empty list mean the same
	for _, c := range calls() {
		for cols := range 3 {
			want := c.ask(given{cols: cols, v: make([]api.Whole, cols)})
			got := c.ask(given{rows: [][]api.Whole{}, cols: cols, v: make([]api.Whole, cols, 9), right: []api.Whole{}})
			answered(t, fmt.Sprint("R3: ", c.name, " of no row, columns: ", cols), got, say(want))
		}
		want := c.ask(given{rows: [][]api.Whole{nil, nil}, right: make([]api.Whole, 2)})
		got := c.ask(given{rows: [][]api.Whole{{}, make([]api.Whole, 0, 5)}, v: []api.Whole{}, right: make([]api.Whole, 2)})
		answered(t, fmt.Sprint("R3: ", c.name, " of empty rows"), got, say(want))
	}
}

func TestHandedInStays(t *testing.T) { // R3
	for _, c := range calls() {
		for _, g := range inputs() {
			in := otherwise(g, 1)
			before := in.picture()
			got := c.ask(in)
			if in.picture() != before {
				t.Fatalf("R3: %s changes what is handed in: %v", c.name, g)
			}
			scribbleAnswer(got)
			if in.picture() != before {
				t.Fatalf("R3: %s answers memory that was handed in: %v", c.name, g)
			}
		}
	}
}

func TestNothingKept(t *testing.T) { // R3: an answer does not hang on what becomes of what was handed in
	for _, c := range calls() {
		for _, g := range inputs() {
			in := otherwise(g, 0)
			got := c.ask(in)
			want := say(got)
			scribbleAll(in)
			answered(t, fmt.Sprint("R3: ", c.name, ", when what was handed in was written on"), got, want)
			answered(t, fmt.Sprint("R3: ", c.name, ", asked again"), c.ask(g), want)
		}
	}
}

func TestListsApart(t *testing.T) { // R3: no two lists of one answer share memory
	for _, c := range calls() {
		for _, g := range inputs() {
			apart(t, c, g)
		}
	}
}

// apart fails the test if writing on one list of an answer, and on the room behind it, turns another one.
func apart(t *testing.T, c call, g given) {
	t.Helper()
	n := len(limbsOf(c.ask(g)))
	for i := range n {
		lists := limbsOf(c.ask(g))
		want := fmt.Sprint(slices.Delete(slices.Clone(lists), i, i+1))
		scribble(lists[i])
		if fmt.Sprint(slices.Delete(lists, i, i+1)) != want {
			t.Fatalf("R3: %s of %v: its lists of limbs share memory", c.name, g)
		}
	}
	for i := range c.ask(g).rows {
		l := c.ask(g).rows
		want := fmt.Sprint(slices.Delete(slices.Clone(l), i, i+1))
		scribbleRow(l[i])
		if fmt.Sprint(slices.Delete(l, i, i+1)) != want {
			t.Fatalf("R3: %s of %v: its rows share memory", c.name, g)
		}
	}
}

func TestOneListTwice(t *testing.T) { // R3: what is handed in may share its lists
	one := row("3 -4294967296 0")
	m := [][]api.Whole{one, one, one}
	apartM := [][]api.Whole{row("3 -4294967296 0"), row("3 -4294967296 0"), row("3 -4294967296 0")}
	for _, c := range calls() {
		want := c.ask(given{apartM, 3, row("3 -4294967296 0"), row("3 -4294967296 0")})
		answered(t, "R3: one list handed in for all: "+c.name, c.ask(given{m, 3, one, one}), say(want))
	}
	if !equalRow(one, row("3 -4294967296 0")) {
		t.Error("R3: the list is changed")
	}
}

func TestAnswersStay(t *testing.T) { // R4: no answer is touched by later calls, and none touches them
	for _, c := range calls() {
		for _, g := range inputs() {
			first := c.ask(g)
			want := say(first)
			for _, more := range calls() {
				scribbleAnswer(more.ask(g))
			}
			answered(t, "R4: the first answer of "+c.name, first, want)
			answered(t, "R4: a later answer of "+c.name, c.ask(g), want)
		}
	}
}

func TestSideBySide(t *testing.T) { // R4: calls made at the same time have nothing in common
	var group sync.WaitGroup
	all := inputs()
	for _, c := range calls() {
		for range 4 {
			group.Go(func() {
				for _, g := range all {
					want := say(c.ask(g))
					for range 5 {
						if say(c.ask(g)) != want {
							t.Errorf("R4: %s of %v is not always the same", c.name, g)
						}
					}
				}
			})
		}
	}
	group.Wait()
}
