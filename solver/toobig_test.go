package solver_test

import (
	"testing"

	"rafter/api"
	"rafter/solver"
)

func TestTooBig(t *testing.T) { // P12.4, W7: just where a sample or a hull is; `big` for ErrTooBig, else the rows at the Exit
	for _, x := range []struct{ text, want string }{
		// A sample at the limit, and one past it.
		{"vars x = M;", "1 M"}, {"vars x = -M;", "1 -M"}, {"vars x = M, y = -M;", "1 0 M; 0 1 -M"},
		{"vars x = M; x := x + 1;", "big"}, {"vars x = M; x := -x - 1;", "big"}, {"vars x = N; x := x + 2;", "1 M"}, {"vars x = N; x := -x - 2;", "1 -M"}, {"vars x = M; x := 2 * x;", "big"},
		{"vars x = M; x := 2 * x; x := 1;", "big"},      // at one point is enough
		{"vars x = M; x := 2 * x - x;", "1 M"},          // an expression's parts are not asked
		{"vars x = M; x := M * x - M * x;", "1 0"},      //
		{"vars x = M; stop; x := 2 * x;", "0 1"},        // no sample comes there
		{"vars x = M; if x = 1 { x := x + x; }", "big"}, // conditions are not asked
		{"vars x = M; x := x * x;", ""},                 // nor is what no form tells
		{"vars x = M; loop { x := x * x; }", ""},        //
		{"vars x; x := M * x;", ""},                     // 0 and M
		{"vars x; x := M * x + 1;", "big"},              // 1 and M + 1
		{"vars x; x := -M * x;", ""},                    //
		{"vars x = 1; loop { x := 2 * x; }", ""},        // two samples are enough, however far the runs go
		{"vars x = 1; loop { x := Q * x; }", ""},        // Q, and Q Q
		{"vars x = 1; loop { x := 2 * Q * x; }", "big"},
		// An image that is too long, but lies in the hull of the others, is no sample.
		{"vars x = 0, y = 0; choose { } or { y := 1; } or { y := 2; x := 1; } x := M * y;", "1 -M 0"},
		{"vars x = 0, y = 0; choose { } or { y := 2; x := 1; } or { y := 1; } x := M * y;", "1 -M 0"},
		{"vars x = 0, y = 0; choose { skip; skip; skip; y := 1; } or { skip; skip; skip; } or { y := 2; } x := M * y;", "big"}, // here it comes first
		// Short samples, a hull that is too big.
		{"vars x = 0, y = 0; choose { x := M; } or { y := N; }", "big"}, // the right side would be M N
		{"vars x = 0, y = 0; choose { } or { x := M; y := N; }", "N -M 0"},
		{"vars x = 0, y = 0; choose { } or { x := M; y := M; }", "1 -1 0"},
		{"vars x = M; choose { } or { x := -1; }", ""},                     // M + 1 steps of 1
		{"vars x = M, y = 0; choose { } or { x := -1; y := 1; }", "big"},   // the step is M + 1 long
		{"vars x = M, y = 0; choose { } or { x := -M; y := 2; }", "1 M M"}, // 2 M, but for what both have in common
		{"vars x = M, y = 0, z = 0; choose { } or { x := 0; y := N; } or { x := 0; z := 1; }", "big"},
		// The hull of the first samples is too big, that of all is not.
		{"vars x = 0, y = 0; choose { x := M; } or { y := N; } or { skip; }", ""},
		{"vars x = 0, y = 0; choose { x := M; } or { y := N; } or { skip; skip; skip; skip; }", ""},
		{"vars x = 0, y = 0, z = 0; choose { x := M; } or { y := N; } or { skip; }", "0 0 1 0"},
		{"vars x = 0, y = 0; loop { choose { x := M; y := 0; } or { y := N; x := 0; } or { x := 0; y := 0; } }", ""},
		{"vars x = 0, y = 0; loop { choose { x := M; y := 0; } or { y := N; x := 0; } }", "big"}, // where the blocks meet
		{"vars x = 0, y = 0; choose { x := M; } or { y := N; } x := any; y := any;", "big"},      // at the point ahead it stays
		// With a point behind in which it is short again it is too big nevertheless.
		{"vars x = 0, y = 0; choose { x := M; } or { y := N; } x := 1; y := 2;", "big"},
	} {
		g := graphed(t, spelt(x.text))
		r, e := solver.Solve(g)
		switch {
		case x.want == "big":
			if r != nil || e != api.ErrTooBig {
				t.Errorf("P12.4: %s: %v; want ErrTooBig", x.text, e)
			}
		case r == nil || e != api.OK:
			t.Errorf("P12.4, W7: %s: %v", x.text, e)
		case sayRows(r.Rows(g.Exit())) != sayRowsOf(x.want):
			t.Errorf("P12.5: %s: %s; want %s", x.text, sayRows(r.Rows(g.Exit())), x.want)
		}
		like(t, x.text, g)
	}
}

func TestOnTheWay(t *testing.T) { // P12.2: which samples there are does not hang on how long the hull's numbers are on the way
	text := "vars x = 0, y = 0; choose { x := M; } or { y := N; } or { skip; skip; } or { x := 5; y := K; }"
	finds(t, text, 11, "M 0 (2 0 10 0); 0 N (4 0 11 0); 0 0 (7 0 12 0)")
}
