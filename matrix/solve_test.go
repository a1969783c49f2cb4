package matrix_test

import (
	"math/big"
	"slices"
	"strings"
	"testing"

	"rafter/api"
	"rafter/matrix"
)

// ratios answers fractions in their one form, from a text with blanks between.
func ratios(s string) []api.Ratio {
	s = strings.NewReplacer("M", most.String(), "P", past.String()).Replace(s)
	var out []api.Ratio
	for _, w := range strings.Fields(s) {
		x, ok := new(big.Rat).SetString(w)
		if !ok {
			panic("no fraction: " + w)
		}
		out = append(out, ratioOf(x))
	}
	return out
}

func TestSolve(t *testing.T) { // P6.6
	for _, x := range []struct {
		m     string
		cols  int
		right string
		want  string
		ok    bool
	}{
		{"2 1; 0 3", 2, "1 2", "1/6 2/3", true}, {"1 1; 2 2", 2, "1 2", "1 0", true}, {"1 1; 2 2", 2, "1 3", "", false}, {"0 2; 0 4", 2, "6 12", "0 3", true}, {"0 2; 0 4", 2, "6 13", "", false},
		{"", 3, "", "0 0 0", true}, {"", 0, "", "", true}, {"0 0", 2, "0", "0 0", true}, {"0 0", 2, "1", "", false}, {"0 0; 1 0", 2, "1 1", "", false}, {"1 0; 0 0", 2, "1 -1", "", false}, {"3", 1, "-2", "-2/3", true}, {"-3", 1, "-2", "2/3", true}, {"-3", 1, "6", "-2", true},
		{"0 1; 1 0", 2, "5 7", "7 5", true}, {"1 2 3", 3, "4", "4 0 0", true}, {"0 2 3", 3, "4", "0 2 0", true}, {"1 2 3; 0 0 2", 3, "1 1", "-1/2 0 1/2", true}, {"1; 2; 3", 1, "2 4 6", "2", true}, {"1; 2; 3", 1, "2 4 7", "", false}, {"1; 2; 3", 1, "3 4 6", "", false},
	} {
		got, ok, e := matrix.Solve(rows(x.m), x.cols, row(x.right))
		if e != api.OK || ok != x.ok || !equalRatios(got, ratios(x.want)) {
			t.Errorf("P6.6: Solve(%s by %s): %v, %v, %v", x.m, x.right, got, ok, e)
		}
	}
	// Rows without a number make 0 alone.
	if got, ok, e := matrix.Solve(make([][]api.Whole, 2), 0, row("0 0")); e != api.OK || !ok || len(got) != 0 {
		t.Error("P6.6: no columns", got, ok, e)
	}
	if got, ok, e := matrix.Solve(make([][]api.Whole, 2), 0, row("0 1")); e != api.OK || ok || len(got) != 0 {
		t.Error("P6.6: no columns, but a number", got, ok, e)
	}
}

// solved fails the test if Solve does not answer what P6.6 and P6.11 ask, word by word.
func solved(t *testing.T, x shape, right []api.Whole) {
	t.Helper()
	var wide [][]api.Whole
	for i, l := range x.rows {
		wide = append(wide, append(slices.Clone(l), right[i]))
	}
	there := rankOf(wide, x.cols+1) == rankOf(x.rows, x.cols)
	got, ok, e := matrix.Solve(x.rows, x.cols, right)
	if e == api.ErrTooBig && there && len(got) == 0 && !ok {
		turned, _ := turnedRows(wide, x.cols)
		for _, r := range turned {
			if last := r[x.cols]; last.Num().CmpAbs(most) > 0 || last.Denom().CmpAbs(most) > 0 {
				return
			}
		}
	}
	if e != api.OK || ok != there || !ok && len(got) > 0 || ok && len(got) != x.cols {
		t.Fatalf("P6.6: Solve(%v, %v): %v, %v, %v", x, right, got, ok, e)
	}
	if !ok {
		return
	}
	pivots := pivotsOf(x.rows, x.cols)
	for c, r := range got {
		if short := len(r.Num.Mag) <= api.MaxLimbs && len(r.Den) <= api.MaxLimbs; !short || !slices.Contains(pivots, c) && !equalRatios([]api.Ratio{r}, ratios("0")) {
			t.Fatalf("P6.6: Solve(%v, %v): column %d: %v", x, right, c, r)
		}
	}
	for i, l := range x.rows {
		sum := new(big.Rat)
		for c, n := range l {
			part := new(big.Rat).SetFrac(toBig(got[c].Num), toNat(got[c].Den))
			sum.Add(sum, part.Mul(part, toRat(n)))
		}
		if sum.Cmp(toRat(right[i])) != 0 {
			t.Fatalf("P6.11: Solve(%v, %v): %v makes %v", x, right, got, sum)
		}
	}
}

func TestSolvePlainly(t *testing.T) { // P6.6, P6.11
	s := &stream{4}
	for _, x := range some() {
		var made []api.Whole
		point := s.wholes(x.cols, 2)
		for _, l := range x.rows {
			made = append(made, wholeOf(makes(l, point)))
		}
		near := slices.Clone(made)
		if len(near) > 0 {
			near[s.below(len(near))] = s.whole(1)
		}
		for _, right := range [][]api.Whole{made, near, s.wholes(len(x.rows), 2), make([]api.Whole, len(x.rows))} {
			solved(t, x, right)
		}
	}
}

func TestSolveTooBig(t *testing.T) { // P6.6
	for _, x := range []struct{ m, right, want string }{
		{"1", "M", "M"}, {"1", "-M", "-M"}, {"1", "P", ""}, {"1", "-P", ""}, {"M", "1", "1/M"}, {"P", "1", ""}, {"-P", "1", ""}, {"P", "P", "1"}, {"P", "0", "0"}, {"M", "-2", "-2/M"}, {"P", "3", ""},
		{"P; P", "P P", "1"}, {"1; 0", "P 1", "false"}, {"1; 2", "P 1", "false"}, {"P; P", "1 2", "false"},
	} {
		got, ok, e := matrix.Solve(rows(x.m), 1, row(x.right))
		switch x.want {
		case "":
			if e != api.ErrTooBig || ok || len(got) != 0 {
				t.Errorf("P6.6: Solve(%s by %s): %v, %v, %v", x.m, x.right, got, ok, e)
			}
		case "false":
			if e != api.OK || ok || len(got) != 0 {
				t.Errorf("P6.6: Solve(%s by %s): %v, %v, %v", x.m, x.right, got, ok, e)
			}
		default:
			if e != api.OK || !ok || !equalRatios(got, ratios(x.want)) {
				t.Errorf("P6.6: Solve(%s by %s): %v, %v, %v", x.m, x.right, got, ok, e)
			}
		}
	}
	for _, x := range []struct {
		m, right string
		want     string
	}{
		{"1 0 P; 0 1 0", "3 4", "3 4 0"}, // what is too long stands in the rows alone
		{"1 0 0; 0 1 0; 0 0 1", "1 2 P", ""}, {"1 0 0; 0 1 0; 0 0 1", "P 2 1", ""}, {"1 0 0; 0 P 0; 0 0 1", "1 1 1", ""}, {"P 1 0; 1 P 0; 0 0 1", "0 0 5", "0 0 5"},
	} {
		got, ok, e := matrix.Solve(rows(x.m), 3, row(x.right))
		if x.want == "" {
			if e != api.ErrTooBig || ok || len(got) != 0 {
				t.Errorf("P6.6: Solve(%s by %s): %v, %v, %v", x.m, x.right, got, ok, e)
			}
		} else if e != api.OK || !ok || !equalRatios(got, ratios(x.want)) {
			t.Errorf("P6.6: Solve(%s by %s): %v, %v, %v", x.m, x.right, got, ok, e)
		}
	}
}
