package relate_test

import (
	"testing"

	"rafter/api"
	"rafter/relate"
	"rafter/solver"
)

func TestTooBig(t *testing.T) { // P17.2, W7: just where a pair or a hull is; `big` for ErrTooBig, else the rows at the Exit
	for _, x := range []struct{ text, want string }{
		// A pair at the limit, and one past it.
		{"vars x = M;", "1 0 M; 0 1 M"}, {"vars x = -M;", "1 0 -M; 0 1 -M"}, {"vars x = M, y;", "1 0 0 0 M; 0 1 0 -1 0; 0 0 1 0 M"},
		{"vars x = M; x := x + 1;", "big"}, {"vars x = M; x := -x - 1;", "big"}, {"vars x = N; x := x + 2;", "1 0 M; 0 1 N"}, {"vars x = N; x := -x - 2;", "1 0 -M; 0 1 N"}, {"vars x = M; x := 2 * x;", "big"},
		{"vars x = M; x := 2 * x; x := 1;", "big"},      // at one point is enough
		{"vars x = M; x := 2 * x - x;", "1 0 M; 0 1 M"}, // an expression's parts are not asked
		{"vars x = M; stop; x := 2 * x;", "0 0 1"},      // no pair comes there
		{"vars x = M; if x = 1 { x := x + x; }", "big"}, // conditions are not asked
		{"vars x = M; x := x * x;", "0 1 M"},            // nor is what no form tells
		{"vars x = M; loop { x := x * x; }", "0 1 M"},   //
		{"vars x = 1; loop { x := 2 * x; }", "0 1 1"},   // two pairs are enough, however far the runs go
		{"vars x = 1; loop { x := Q * x; }", "0 1 1"},   // Q, and Q Q
		{"vars x; loop { x := Q * x; }", ""},            // (0, 0), (1, 1), (Q, 1)
		{"vars x = 1; loop { x := 2 * Q * x; }", "big"},
		// A row says how far each beginning is taken.
		{"vars x; x := M * x;", "1 -M 0"}, {"vars x; x := -M * x;", "1 M 0"}, {"vars x; x := M * x - 5;", "1 -M -5"}, {"vars x; x := M - M * x;", "1 M M"},
		{"vars x; x := M * x + 1;", "big"}, // 1 and M + 1
		// Short pairs, a hull that is too big.
		{"vars x; x := M * x - 1; x := x - M + 1;", "1 -M -M"},
		{"vars x; x := H * x; x := x + x - H;", "big"}, // -H and H, so 2 H for each x°
		{"vars x; x := H * x; x := x + x - H; x := 0;", "big"},
		{"vars x, y = 0, z = 0; y := M * x; z := N * x;", "1 0 0 -1 0 0 0; 0 1 0 -M 0 0 0; 0 0 1 -N 0 0 0; 0 0 0 0 1 0 0; 0 0 0 0 0 1 0"},
		{"vars t, x = 0, y = 0; choose { x := M; } or { y := N; }", "big"}, // the right side would be M N
		// The hull of the first pairs is too big, that of all is not.
		{"vars t, x = 0, y = 0; choose { x := M; } or { y := N; } or { skip; }", "1 0 0 -1 0 0 0; 0 0 0 0 1 0 0; 0 0 0 0 0 1 0"},
		{"vars t, x = 0, y = 0; choose { x := M; } or { y := N; } or { skip; skip; skip; skip; }", "1 0 0 -1 0 0 0; 0 0 0 0 1 0 0; 0 0 0 0 0 1 0"},
		{"vars x; choose { x := H * x; } or { x := -H; }", ""},
		// An image that is too long, but lies in the hull of the others, is no pair.
		{"vars x = 0, y = 0; choose { } or { y := 1; } or { y := 2; x := 1; } x := M * y;", "1 -M 0 0 0; 0 0 1 0 0; 0 0 0 1 0"},
		{"vars x = 0, y = 0; choose { skip; skip; skip; y := 1; } or { skip; skip; skip; } or { y := 2; } x := M * y;", "big"}, // here it comes first
	} {
		g := graphed(t, x.text)
		r, e := relate.Solve(g)
		switch {
		case x.want == "big":
			if r != nil || e != api.ErrTooBig {
				t.Errorf("P17.2: %s: %v; want ErrTooBig", x.text, e)
			}
		case r == nil || e != api.OK:
			t.Errorf("P17.2, W7: %s: %v", x.text, e)
		case sayRows(r.Rows(g.Exit())) != sayRowsOf(x.want):
			t.Errorf("P17.3: %s: %s; want %s", x.text, sayRows(r.Rows(g.Exit())), x.want)
		}
		like(t, x.text, g)
	}
}

func TestBesideStates(t *testing.T) { // P17.2: it hangs on the pairs, not on the states alone
	for _, x := range []struct {
		text         string
		pairs, alone api.Errno
	}{
		{"vars x; x := H * x; x := x + x - H;", api.ErrTooBig, api.OK},
		{"vars t, x = 0, y = 0; x := M - M * t; y := N * t; t := 0;", api.OK, api.ErrTooBig}, // N x + M y = M N; but x + M t° = M
		{"vars t, x = 0; x := M - M * t;", api.OK, api.OK},
		{"vars t; t := M * t + 1;", api.ErrTooBig, api.ErrTooBig},
	} {
		g := graphed(t, x.text)
		if _, e := relate.Solve(g); e != x.pairs {
			t.Errorf("P17.2: %s: %v; want %v", x.text, e, x.pairs)
		}
		if _, e := solver.Solve(g); e != x.alone {
			t.Errorf("P12.4: %s: %v; want %v", x.text, e, x.alone)
		}
		like(t, x.text, g)
	}
}
