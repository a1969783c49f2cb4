package span_test

import (
	"fmt"
	"math/big"
	"slices"
	"strings"
	"sync"
	"testing"

	"rafter/api"
	"rafter/span"
)

// given is all that a call of the layer may be handed in, beside spans.
type given struct {
	n, v   int
	points [][]api.Ratio
	rows   [][]api.Whole
	form   []api.Whole
	vars   []string
}

// spot and line answer one point and one row of what is given, 0 if there is none.
func (g given) spot() []api.Ratio {
	if len(g.points) > 0 {
		return g.points[0]
	}
	return make([]api.Ratio, g.n)
}

func (g given) line() []api.Whole {
	if len(g.rows) > 0 {
		return g.rows[0]
	}
	return make([]api.Whole, g.n+1)
}

// call is a call that takes lists. It answers a span or none, and all it says as a text.
type call struct {
	name string
	ask  func(s *span.Span, g given) (*span.Span, string)
}

// calls answers all calls of the layer that take lists.
func calls() []call {
	made := func(s *span.Span, e api.Errno) (*span.Span, string) {
		if s == nil {
			return nil, fmt.Sprint(e)
		}
		return s, fields(s) + fmt.Sprint(e)
	}
	return []call{
		{"Points", func(s *span.Span, g given) (*span.Span, string) { return made(span.Points(g.n, g.points)) }},
		{"Rows", func(s *span.Span, g given) (*span.Span, string) { return made(span.Rows(g.n, g.rows)) }},
		{"Has", func(s *span.Span, g given) (*span.Span, string) {
			is, e := s.Has(g.spot())
			return nil, fmt.Sprint(is, e)
		}},
		{"Holds", func(s *span.Span, g given) (*span.Span, string) {
			is, e := s.Holds(g.line())
			return nil, fmt.Sprint(is, e)
		}},
		{"Set", func(s *span.Span, g given) (*span.Span, string) { return made(s.Set(g.v, g.form)) }},
		{"Before", func(s *span.Span, g given) (*span.Span, string) { return made(s.Before(g.v, g.form)) }},
		{"Print", func(s *span.Span, g given) (*span.Span, string) {
			text, e := s.Print(g.vars)
			return nil, fmt.Sprint(text, e)
		}},
	}
}

// moves answers what each call makes of two spans and a variable.
func moves(s, o *span.Span, v int) []*span.Span {
	var out []*span.Span
	keep := func(s *span.Span, e api.Errno) {
		if e == api.OK {
			out = append(out, s)
		}
	}
	keep(s.Join(o))
	keep(s.Meet(o))
	keep(s.Any(v))
	keep(s.Every(v))
	itself := make([]api.Whole, s.Vars()+1)
	itself[v] = row("1")[0]
	keep(s.Set(v, itself))
	keep(s.Before(v, itself))
	return out
}

// inputs answers what is handed in, in its one form; some rows are in echelon form already, so that they are told as they are.
func inputs() []given {
	s := &stream{20}
	var out []given
	for i := range 30 {
		n := 1 + i%4
		g := given{n: n, v: i % n, form: lowestRow(s.form(n, i%n)), vars: names[:n]}
		g.points = toPoints(toRats(s.points(i%5, n, i%3), toRat))
		for _, r := range s.rows(i%(n+2), n, i%3) {
			g.rows = append(g.rows, lowestRow(r))
		}
		if one, e := span.Rows(n, g.rows); i%3 == 0 && e == api.OK {
			g.rows = one.Rows()
		}
		out = append(out, g)
	}
	return out
}

// lowestRow answers numbers in their one form.
func lowestRow(l []api.Whole) []api.Whole {
	var out []api.Whole
	for _, x := range l {
		out = append(out, wholeOf(toBig(x)))
	}
	return out
}

// wide answers limbs with noughts on top and spare room behind them, all of it written on.
func wide(a []uint32, noughts int) []uint32 {
	all := append(append(slices.Clone(a), make([]uint32, noughts)...), 0xdead, 0xbeef, 0xcafe)
	return all[:len(a)+noughts]
}

// wideRow answers numbers with limbs 0 on top, a sign of 0, and spare room everywhere.
func wideRow(l []api.Whole, noughts int) []api.Whole {
	var out []api.Whole
	for _, x := range l {
		out = append(out, api.Whole{Neg: x.Neg || len(x.Mag) == 0, Mag: wide(x.Mag, noughts)})
	}
	return append(out, row("77 -78")...)[:len(l)]
}

// widePoint answers fractions not in lowest terms, or over 0, with limbs 0 on top, and spare room everywhere.
func widePoint(l []api.Ratio, noughts int) []api.Ratio {
	times := big.NewInt(int64(6*noughts + 1))
	var out []api.Ratio
	for _, r := range l {
		num, den := wholeOf(new(big.Int).Mul(toBig(r.Num), times)), natOf(new(big.Int).Mul(toNat(r.Den), times))
		if noughts > 0 && len(num.Mag) == 0 {
			num, den = row("-5")[0], nil
		}
		out = append(out, api.Ratio{Num: wideRow([]api.Whole{num}, noughts)[0], Den: wide(den, noughts)})
	}
	return append(out, point("7 8/9")...)[:len(l)]
}

// otherwise answers the same as g, handed in otherwise.
func otherwise(g given, noughts int) given {
	out := given{n: g.n, v: g.v, form: wideRow(g.form, noughts)}
	for _, p := range g.points {
		out.points = append(out.points, widePoint(p, noughts))
	}
	for _, r := range g.rows {
		out.rows = append(out.rows, wideRow(r, noughts))
	}
	out.points = append(out.points, point("5"), point("6 7"))[:len(g.points)]
	out.rows = append(out.rows, row("5 6 7"), row("8"))[:len(g.rows)]
	out.vars = append(slices.Clone(g.vars), "spare", "room")[:len(g.vars)]
	return out
}

// each goes through all numbers of g, with the room behind every list.
func (g given) each(rows func([]api.Whole), points func([]api.Ratio)) {
	rows(g.form[:cap(g.form)])
	for _, r := range g.rows[:cap(g.rows)] {
		rows(r[:cap(r)])
	}
	for _, p := range g.points[:cap(g.points)] {
		points(p[:cap(p)])
	}
}

// picture answers all that g holds, with the room behind every list, as a text.
func (g given) picture() string {
	var out strings.Builder
	number := func(x api.Whole) { fmt.Fprint(&out, x.Neg, len(x.Mag), x.Mag[:cap(x.Mag)]) }
	g.each(func(l []api.Whole) {
		fmt.Fprint(&out, " row ")
		for _, x := range l {
			number(x)
		}
	}, func(l []api.Ratio) {
		fmt.Fprint(&out, " point ")
		for _, x := range l {
			number(x.Num)
			fmt.Fprint(&out, len(x.Den), x.Den[:cap(x.Den)])
		}
	})
	for _, l := range g.rows[:cap(g.rows)] {
		fmt.Fprint(&out, " ", len(l))
	}
	for _, l := range g.points[:cap(g.points)] {
		fmt.Fprint(&out, " ", len(l))
	}
	return out.String() + fmt.Sprint(g.vars[:cap(g.vars)])
}

// scribble writes over limbs and the room behind them.
func scribble(a []uint32) {
	a = a[:cap(a)]
	for i := range a {
		a[i] ^= 0x5a5a5a5a
	}
}

// scribbleRow and scribblePoint write over numbers, their limbs, and the room behind all of them.
func scribbleRow(l []api.Whole) {
	l = l[:cap(l)]
	for i := range l {
		scribble(l[i].Mag)
		l[i] = api.Whole{Neg: true, Mag: []uint32{13}}
	}
}

func scribblePoint(l []api.Ratio) {
	l = l[:cap(l)]
	for i := range l {
		scribble(l[i].Num.Mag)
		scribble(l[i].Den)
		l[i] = api.Ratio{Num: api.Whole{Neg: true, Mag: []uint32{13}}, Den: []uint32{17}}
	}
}

// scribbleTold writes over all that a span tells.
func scribbleTold(s *span.Span) {
	for _, l := range [][][]api.Whole{s.Rows(), s.Steps()} {
		for _, r := range l {
			scribbleRow(r)
		}
		clear(l[:cap(l)])
	}
	base, _ := s.Base()
	scribblePoint(base)
}

func TestValuesAlone(t *testing.T) { // P7.15, R5
	for _, g := range inputs() {
		s := ok(t)(span.Rows(g.n, g.rows))
		for _, c := range calls() {
			_, want := c.ask(s, g)
			for _, noughts := range []int{0, 1, 40} {
				if _, got := c.ask(s, otherwise(g, noughts)); got != want {
					t.Fatalf("R5: %s of %v: %s, want %s", c.name, g, got, want)
				}
			}
		}
	}
}

func TestToldForms(t *testing.T) { // R5: limbs without 0 on top, no sign of 0, lowest terms
	for _, g := range inputs() {
		for _, s := range []*span.Span{ok(t)(span.Rows(g.n, otherwise(g, 2).rows)), ok(t)(span.Points(g.n, otherwise(g, 2).points))} {
			for _, l := range append(s.Rows(), s.Steps()...) {
				for _, x := range l {
					if !equalWhole(x, wholeOf(toBig(x))) {
						t.Fatal("R5: ", x)
					}
				}
			}
			base, _ := s.Base()
			for _, x := range base {
				low := ratioOf(toRat(x))
				if !equalWhole(x.Num, low.Num) || !slices.Equal(x.Den, low.Den) {
					t.Fatal("R5: ", x)
				}
			}
		}
	}
}

func TestNoListAndEmpty(t *testing.T) { // R3: nil and an empty list mean the same
	for n := range 3 {
		if !oneSpan(ok(t)(span.Points(n, nil)), ok(t)(span.Points(n, [][]api.Ratio{})), ok(t)(span.Empty(n))) || !oneSpan(ok(t)(span.Rows(n, nil)), ok(t)(span.Rows(n, [][]api.Whole{})), ok(t)(span.All(n))) {
			t.Error("R3: no point or no row, ", n)
		}
	}
	one := ok(t)(span.Points(0, [][]api.Ratio{nil}))
	if !oneSpan(one, ok(t)(span.Points(0, [][]api.Ratio{{}})), ok(t)(span.All(0))) || !yes(t)(one.Has(nil)) || !yes(t)(one.Has([]api.Ratio{})) {
		t.Error("R3: a point of no number")
	}
	if text, e := one.Print([]string{}); text != "" || e != api.OK {
		t.Error("R3: ", text, e)
	}
}

func TestHandedInStays(t *testing.T) { // R3
	for _, g := range inputs() {
		s := ok(t)(span.Rows(g.n, g.rows))
		for _, c := range calls() {
			in := otherwise(g, 1)
			before := in.picture()
			one, _ := c.ask(s, in)
			if one != nil {
				scribbleTold(one)
			}
			if in.picture() != before {
				t.Fatalf("R3: %s changes what is handed in, or tells it: %v", c.name, g)
			}
		}
	}
}

func TestNothingKept(t *testing.T) { // R3: a span does not hang on what becomes of what was handed in
	for _, g := range inputs() {
		s := ok(t)(span.Rows(g.n, g.rows))
		before := fields(s)
		for _, c := range calls() {
			in := otherwise(g, 0)
			one, _ := c.ask(s, in)
			want := ""
			if one != nil {
				want = fields(one)
			}
			in.each(scribbleRow, scribblePoint)
			if one != nil && fields(one) != want {
				t.Fatalf("R3: %s keeps what was handed in: %v", c.name, g)
			}
			if fields(s) != before {
				t.Fatalf("R4: %s changes its span", c.name)
			}
		}
	}
}

func TestToldIsNew(t *testing.T) { // P7.15, R3, R4: writing on what was told turns no span
	for i, g := range inputs() {
		for _, s := range []*span.Span{ok(t)(span.Rows(g.n, g.rows)), ok(t)(span.Points(g.n, g.points))} {
			o := ok(t)(span.Points(g.n, toPoints([][]*big.Rat{unit(g.n, i%g.n)})))
			before, other := fields(s), fields(o)
			all := moves(s, o, g.v)
			var want []string
			for _, one := range all {
				if one == s || one == o {
					t.Fatal("P7: what is made is no new span")
				}
				want = append(want, fields(one))
			}
			for k, one := range append(all, s, o) {
				scribbleTold(one)
				if k < len(all) && fields(one) != want[k] {
					t.Fatal("R3: a span tells the memory in which it is kept")
				}
			}
			if fields(s) != before || fields(o) != other {
				t.Fatal("R4: a span is changed")
			}
		}
	}
}

func TestListsApart(t *testing.T) { // R3: no two lists of one answer share memory
	for _, g := range inputs() {
		for _, s := range []*span.Span{ok(t)(span.Rows(g.n, g.rows)), ok(t)(span.Points(g.n, g.points))} {
			for _, tell := range []func() [][]api.Whole{s.Rows, s.Steps} {
				for i, r := range tell() {
					l := tell()
					want := sayAll(slices.Delete(tell(), i, i+1))
					scribbleRow(l[i])
					if sayAll(slices.Delete(l, i, i+1)) != want {
						t.Fatal("R3: rows share memory: ", fields(s))
					}
					for k := range r {
						apart(t, tell()[i], k)
					}
				}
			}
			base, _ := s.Base()
			for k := range 2 * len(base) {
				l, _ := s.Base()
				lists := limbsOf(l)
				mine := lists[k]
				lists = slices.Delete(lists, k, k+1)
				want := fmt.Sprint(lists)
				scribble(mine)
				if fmt.Sprint(lists) != want {
					t.Fatal("R3: fractions share memory: ", fields(s))
				}
			}
		}
	}
}

// apart fails the test if writing on the number k of a row turns another one.
func apart(t *testing.T, l []api.Whole, k int) {
	t.Helper()
	want := say(slices.Delete(slices.Clone(l), k, k+1))
	scribble(l[k].Mag)
	if say(slices.Delete(l, k, k+1)) != want {
		t.Fatal("R3: numbers of a row share memory")
	}
}

// limbsOf answers all lists of limbs of fractions.
func limbsOf(l []api.Ratio) [][]uint32 {
	var out [][]uint32
	for _, r := range l {
		out = append(out, r.Num.Mag, r.Den)
	}
	return out
}

func TestOneListTwice(t *testing.T) { // R3: what is handed in may share its lists
	r, p := row("3 -4294967296 0"), point("3/7 -4294967296")
	if !oneSpan(ok(t)(span.Rows(2, [][]api.Whole{r, r, r})), byRows(t, 2, "3 -4294967296 0")) || !oneSpan(ok(t)(span.Points(2, [][]api.Ratio{p, p})), byPoints(t, 2, "3/7 -4294967296")) {
		t.Error("R3: one list handed in for all")
	}
	s := byRows(t, 2, "2 -1 0")
	if !oneSpan(s, ok(t)(s.Join(s)), ok(t)(s.Meet(s))) || !yes(t)(s.Within(s)) || !s.Same(s) {
		t.Error("P7.6: a span with itself")
	}
}

func TestSideBySide(t *testing.T) { // R4: one span asked by many at the same time
	var group sync.WaitGroup
	for _, g := range inputs() {
		s, o := ok(t)(span.Rows(g.n, g.rows)), ok(t)(span.Points(g.n, g.points))
		picture := func() string {
			out := fields(s) + fields(o)
			for _, one := range append(moves(s, o, g.v), moves(o, s, g.v)...) {
				out += fields(one)
			}
			for _, c := range calls() {
				_, text := c.ask(s, g)
				out += text
			}
			return out
		}
		want := picture()
		for range 3 {
			group.Go(func() {
				if picture() != want {
					t.Error("R4: not always the same: ", want)
				}
			})
		}
	}
	group.Wait()
}
