package span_test

import (
	"fmt"
	"math/big"
	"strings"
	"testing"

	"rafter/affine"
	"rafter/api"
	"rafter/span"
)

func TestHasAndHolds(t *testing.T) { // P7.7, by hand
	line, none, all := byRows(t, 2, "2 -1 0"), ok(t)(span.Empty(2)), ok(t)(span.All(2))
	for _, x := range []struct {
		point          string
		on, off, every bool
	}{{"0 0", true, false, true}, {"1/2 1", true, false, true}, {"1 1/2", false, false, true}, {"-3 -6", true, false, true}, {"1 2001/1000", false, false, true}} {
		p := point(x.point)
		if a, b, c := yes(t)(line.Has(p)), yes(t)(none.Has(p)), yes(t)(all.Has(p)); a != x.on || b != x.off || c != x.every {
			t.Errorf("P7.7: Has(%s): %v, %v, %v", x.point, a, b, c)
		}
	}
	for _, x := range []struct {
		row            string
		on, off, every bool
	}{{"4 -2 0", true, true, false}, {"4 -2 1", false, true, false}, {"0 0 0", true, true, true}, {"0 0 1", false, true, false}, {"1 0 0", false, true, false}, {"-2 1 0", true, true, false}} {
		r := row(x.row)
		if a, b, c := yes(t)(line.Holds(r)), yes(t)(none.Holds(r)), yes(t)(all.Holds(r)); a != x.on || b != x.off || c != x.every {
			t.Errorf("P7.7: Holds(%s): %v, %v, %v", x.row, a, b, c)
		}
	}
	nought, void := ok(t)(span.All(0)), ok(t)(span.Empty(0))
	if !yes(t)(nought.Has(nil)) || yes(t)(void.Has(nil)) || !yes(t)(nought.Holds(row("0"))) || yes(t)(nought.Holds(row("3"))) || !yes(t)(void.Holds(row("3"))) {
		t.Error("P7.7: no variable")
	}
	if !yes(t)(void.Within(nought)) || yes(t)(nought.Within(void)) || void.Same(nought) || !nought.Same(nought) {
		t.Error("P7.7: no variable")
	}
}

func TestHasAndHoldsPlainly(t *testing.T) { // P7.7, held against the model
	s := &stream{4}
	for n := range 5 {
		all, models := s.spans(t, n, 30)
		for i, one := range all {
			m := models[i]
			asked := append(s.points(4, n, 1), toPoints(m.corners())...)
			if m.some && m.n > 0 {
				near := toPoints(m.corners())[0]
				near[s.below(n)] = s.point(1, 1)[0]
				asked = append(asked, near)
			}
			for _, p := range asked {
				want := m.has(toRats([][]api.Ratio{p}, toRat)[0])
				if is, e := one.Has(p); is != want || e != api.OK {
					t.Fatalf("P7.7: %s: Has(%s): %v, %v", fields(one), sayPoint(p), is, e)
				}
			}
			rows := append(s.rows(4, n, 1), one.Rows()...)
			for _, r := range one.Rows() {
				turned := mixed(r, 3, r, -5)
				turned[s.below(n+1)] = s.whole(1)
				rows = append(rows, mixed(r, 3, one.Rows()[0], -2), turned)
			}
			for _, r := range rows {
				want := m.holds(toRats([][]api.Whole{r}, wholeRat)[0])
				if is, e := one.Holds(r); is != want || e != api.OK {
					t.Fatalf("P7.7: %s: Holds(%s): %v, %v", fields(one), say(r), is, e)
				}
			}
		}
	}
}

// toPoints answers points in their one form.
func toPoints(l [][]*big.Rat) [][]api.Ratio {
	out := make([][]api.Ratio, len(l))
	for i, p := range l {
		for _, x := range p {
			out[i] = append(out[i], ratioOf(x))
		}
	}
	return out
}

func TestWithinAndSame(t *testing.T) { // P7.7, held against the model
	s := &stream{5}
	var within, same int
	for n := range 5 {
		all, models := s.spans(t, n, 30)
		for i, one := range all {
			for k, o := range all {
				want := models[i].within(models[k])
				if is, e := one.Within(o); is != want || e != api.OK {
					t.Fatalf("P7.7: %s Within %s: %v, %v", fields(one), fields(o), is, e)
				}
				both := want && models[k].within(models[i])
				if one.Same(o) != both {
					t.Fatalf("P7.7: %s Same %s: %v", fields(one), fields(o), one.Same(o))
				}
				if i != k && want {
					within++
				}
				if i != k && both {
					same++
				}
			}
		}
	}
	if within < 100 || same < 20 {
		t.Error("too few are within another one, or the same: ", within, same)
	}
}

func TestSameOverOthers(t *testing.T) { // P7.7: another n, and nil
	for n := range 4 {
		for k := range 4 {
			a, b := ok(t)(span.All(n)), ok(t)(span.All(k))
			c, d := ok(t)(span.Empty(n)), ok(t)(span.Empty(k))
			if a.Same(b) != (n == k) || c.Same(d) != (n == k) || a.Same(d) || c.Same(b) {
				t.Error("P7.7: Same, ", n, k)
			}
		}
		if ok(t)(span.All(n)).Same(nil) || ok(t)(span.Empty(n)).Same(nil) {
			t.Error("P7.7: Same as nil, ", n)
		}
	}
}

func TestPrint(t *testing.T) { // P7.8
	xy := []string{"x", "y"}
	for _, x := range []struct {
		n          int
		vars       []string
		rows, want string
	}{
		{2, xy, "2 -1 0", "2*x - y = 0\n"}, {2, xy, "0 0 1", "0 = 1\n"}, {2, xy, "", ""}, {2, xy, "1 0 3; 0 2 -1", "x = 3\n2*y = -1\n"}, {2, []string{"y", "x"}, "1 1 1", "y + x = 1\n"},
		{0, nil, "", ""}, {0, []string{}, "7", "0 = 1\n"}, {1, []string{"\u03b1\u2081"}, "2 3", "2*\u03b1\u2081 = 3\n"}, {1, []string{"x"}, "-1 M", "x = -M\n"}, {3, []string{"a", "b", "c"}, "1 1 1 1; 0 1 2 0", "a - c = 1\nb + 2*c = 0\n"},
	} {
		if got, e := byRows(t, x.n, x.rows).Print(x.vars); e != api.OK || got != words.Replace(x.want) {
			t.Errorf("P7.8: Print of %s: %q, %v", x.rows, got, e)
		}
	}
	s := &stream{6}
	all, _ := s.spans(t, 4, 40)
	for _, one := range all {
		var want strings.Builder
		for _, r := range one.Rows() {
			line, _ := affine.Print(r, names[:4])
			fmt.Fprintln(&want, line)
		}
		if got, e := one.Print(names[:4]); e != api.OK || got != want.String() {
			t.Fatalf("P7.8: %q, %v, want %q", got, e, want.String())
		}
	}
}

func TestPrintRefused(t *testing.T) { // P7.8
	many := append(append([]string{}, names...), "q")
	for n := range 4 {
		for _, s := range []*span.Span{ok(t)(span.All(n)), ok(t)(span.Empty(n)), ok(t)(span.Points(n, [][]api.Ratio{make([]api.Ratio, n)}))} {
			for _, vars := range [][]string{names[:n+1], names[:max(n-1, 0)], many, {"x", "x"}, {"x", "2"}, {"", "y"}, {"x", "y z"}, {"if", "-"}} {
				want := api.OK
				if len(vars) != n || affine.Names(vars) != api.OK {
					want = api.ErrArg
				}
				if text, e := s.Print(vars); e != want || e != api.OK && text != "" {
					t.Errorf("P7.8: %d variables, Print(%q): %q, %v", n, vars, text, e)
				}
			}
		}
	}
	if text, e := ok(t)(span.All(16)).Print(names); text != "" || e != api.OK {
		t.Error("P7.8: sixteen names: ", text, e)
	}
	if _, e := ok(t)(span.All(2)).Print([]string{"x", "x"}); e != api.ErrArg {
		t.Error("P7.8: a name twice, and nothing to print: ", e)
	}
}
