package affine_test

import (
	"strings"
	"testing"

	"rafter/affine"
	"rafter/api"
)

func TestPrint(t *testing.T) { // P5.4
	for s, want := range map[string]string{
		"1 -2 | -3": "x - 2*y = -3", "0 -1 | 0": "-y = 0", "0 0 | 1": "0 = 1", "0 0 | 0": "0 = 0", "0 0 | -7": "0 = -7", "-1 1 | 5": "-x + y = 5", "4 6 | 2": "4*x + 6*y = 2", "-4 -6 | -2": "-4*x - 6*y = -2",
		"1 0 | 0": "x = 0", "0 1 | 4294967296": "y = 4294967296", "-1 -1 | 1": "-x - y = 1", "-10 1 | 10": "-10*x + y = 10", "4294967296 -4294967297 | -18446744073709551616": "4294967296*x - 4294967297*y = -18446744073709551616",
		"2 0 | 2": "2*x = 2", "-2 0 | 2": "-2*x = 2", "0 3 | 1": "3*y = 1", "11 -11 | 0": "11*x - 11*y = 0",
	} {
		if got, e := affine.Print(row(s), xy); e != api.OK || got != want {
			t.Errorf("P5.4: %s: %q, %v; want %q", s, got, e, want)
		}
	}
	for s, want := range map[string]string{"1 0 -1 0 | 3": "x - \u03b1\u2081 = 3", "0 0 0 -5 | 0": "-5*q_9 = 0", "0 1 1 1 | 0": "y + \u03b1\u2081 + q_9 = 0", "-2 -1 0 1 | 1": "-2*x - y + q_9 = 1"} {
		if got, e := affine.Print(row(s), few); e != api.OK || got != want {
			t.Errorf("P5.4: %s: %q, %v; want %q", s, got, e, want)
		}
	}
	for s, want := range map[string]string{"0": "0 = 0", "-3": "0 = -3"} {
		if got, e := affine.Print(row(s), nil); e != api.OK || got != want {
			t.Errorf("P5.4: without variables: %s: %q, %v", s, got, e)
		}
	}
	long := most.String() + "7" // no number is too long to be written
	if got, e := affine.Print(row(long+" -1 -"+long), xy); e != api.OK || got != long+"*x - y = -"+long {
		t.Errorf("P5.4: long numbers: %v", e)
	}
}

func TestPrintValues(t *testing.T) { // P5.4, R5: numbers count by value
	odd := []api.Whole{{Neg: true, Mag: []uint32{0, 0}}, {Neg: true, Mag: []uint32{1, 0}}, {Mag: []uint32{1, 0, 0}}, {Neg: true}, {Neg: true, Mag: []uint32{0}}}
	if got, e := affine.Print(odd, few); e != api.OK || got != "-y + \u03b1\u2081 = 0" {
		t.Errorf("P5.4, R5: %q, %v", got, e)
	}
}

func TestPrintRefused(t *testing.T) { // P5.4
	seventeen := strings.Fields("a b c d e f g h i j k l m n o p q")
	for _, x := range []struct {
		row  string
		vars []string
	}{
		{"", nil}, {"", xy}, {"1", xy}, {"1 2", xy}, {"1 2 3 4", xy}, {"1 2", nil}, {"1 2 3", []string{"x", "x"}}, {"1 2 3", []string{"x", "1"}}, {"1 2", []string{""}}, {"1", []string{"-"}}, {strings.Repeat("1 ", 18), seventeen},
	} {
		if got, e := affine.Print(row(x.row), x.vars); e != api.ErrArg || got != "" {
			t.Errorf("P5.4: %s over %q: %q, %v", x.row, x.vars, got, e)
		}
	}
	if _, e := affine.Print(row(strings.Repeat("1 ", 17)), seventeen[:16]); e != api.OK {
		t.Errorf("P5.4: of 16 variables: %v", e)
	}
}
