package back_test

import (
	"testing"

	"rafter/api"
	"rafter/back"
)

func TestTooBig(t *testing.T) { // P16.3, W7: just where the canonical form of the row, a need, or a point's span is; `big` for ErrTooBig, else the rows at point 0. Find is asked of the Exit.
	for _, x := range []struct{ text, row, want string }{
		// The canonical form of the row that is asked for.
		{"vars x;", "1 M", "1 M"}, {"vars x;", "-1 M", "1 -M"}, {"vars x;", "M 1", "M 1"},
		{"vars x;", "1 P", "big"}, {"vars x;", "1 -P", "big"}, {"vars x;", "P 1", "big"}, {"vars x;", "-P 1", "big"},
		{"vars x;", "P 0", "1 0"}, {"vars x;", "P P", "1 1"}, {"vars x;", "0 P", "0 1"}, {"vars x, y;", "P -P 0", "1 -1 0"}, // what all have in common is not told
		{"vars x, y;", "0 P 2", "0 " + power(32*api.MaxLimbs-1, 0).String() + " 1"},
		// A need at the limit, and one past it.
		{"vars x; x := x - 1;", "1 M", "big"}, {"vars x; x := x + 1;", "1 M", "1 " + power(32*api.MaxLimbs, -2).String()}, {"vars x; x := x - 2;", "1 N", "1 M"}, {"vars x; x := -x - 2;", "1 N", "1 -M"}, {"vars x; x := x + 3;", "1 -N", "big"},
		{"vars x, y; y := M * x;", "0 1 1", "M 0 1"}, {"vars x, y; x := 2 * x; y := M * x;", "0 1 1", "big"}, {"vars x, y; y := M * x;", "0 2 2", "M 0 1"},
		{"vars x, y; y := 2 * x;", "M 1 1", "big"}, {"vars x, y; y := 2 * x;", "M 1 0", "1 0 0"}, {"vars x; x := 2 * x;", "M 0", "1 0"}, {"vars x; x := 2 * x;", "1 M", "2 M"}, {"vars x; x := 2 * x;", "M 2", "M 1"}, {"vars x; x := 2 * x;", "M 1", "big"},
		{"vars x, y; x := K * x;", "K K 0", "K 1 0"}, // it is divided first
		// At one point it is enough, whatever is needed ahead of that.
		{"vars x; x := 1; x := 2 * x;", "M 1", "big"},
		{"vars x; x := any; x := 2 * x;", "M 1", "big"},
		{"vars x; x := 0; skip;", "1 P", "big"},
		{"vars x; stop; x := 2 * x;", "M 1", "big"}, // no way from the beginning leads there, but an edge does
		{"vars x; x := 2 * x; stop;", "M 1", ""},    // here none does
		{"vars x, y; x := 2 * x;", "0 1 M", "0 1 M"},
		// A row that is told may be of any length.
		{"vars x; x := 2 * x;", "0 M", "0 1"},
		{"vars x, y, z, w; y := M * x; choose { w := x; } or { w := z; } or { w := 2 * y - z; }", "0 0 0 1 0", "1 0 0 0 0; 0 0 1 0 0"}, // 2 M x - z is told by x and z
		{"vars x, y, z, w; y := M * x; choose { w := z; } or { w := x; } or { w := 2 * y - z; }", "0 0 0 1 0", "1 0 0 0 0; 0 0 1 0 0"},
		{"vars x, y, z, w; y := M * x; choose { w := x; } or { w := 2 * y - z; } or { w := z; }", "0 0 0 1 0", "big"}, // here it comes ahead of one of them
		{"vars x, y, z, w; y := M * x; choose { w := 2 * y - z; } or { w := x; } or { w := z; }", "0 0 0 1 0", "big"},
		{"vars x, y, z, w; y := M * x; choose { w := x; } or { w := 2 * y - z; } or { skip; w := z; }", "0 0 0 1 0", "big"},
		{"vars x, y, z, w; y := M * x; choose { skip; w := x; } or { skip; w := z; } or { skip; skip; w := 2 * y - z; }", "0 0 0 1 0", "1 0 0 0 0; 0 0 1 0 0"},
		{"vars x, y, z, w; y := M * x; choose { w := 2 * y - z; skip; skip; } or { w := x; } or { w := z; }", "0 0 0 1 0", "1 0 0 0 0; 0 0 1 0 0"}, // it waits longer
		{"vars x, y, w; x := any; choose { w := y; } or { w := y - x - N - 1; }", "0 0 1 1", "0 0 0 1"},                                            // y = 1 and y = M tell y = M + 1
		{"vars x, y, w; x := x / y; choose { w := y; } or { w := y - x - N - 1; }", "0 0 1 1", "0 0 0 1"},
		{"vars x, y, w; x := any; choose { w := y - x - N - 1; } or { w := y; }", "0 0 1 1", "big"},
		{"vars x, y, w; x := x / y; choose { w := y - x - N - 1; } or { w := y; }", "0 0 1 1", "big"},
		{"vars x, y, w; x := any; choose { w := y + x - N - 1; } or { w := y; }", "0 0 1 1", "0 0 0 1"}, // y = M and y = M - 1
		{"vars x, y, w; x := any; choose { w := 2; } or { w := y - x - N - 1; }", "0 0 1 1", "0 0 0 1"}, // with 0 = 1 ahead, y = M, the one of 0, tells y = M + 1, the one of 1
		// Short needs, a span that is too big: its rows, its steps.
		{"vars x, y, z; choose { x := x + M * y; } or { x := y + N * z; }", "1 0 0 0", "big"},
		{"vars x, y, z; choose { x := x + M * y; } or { x := y + 2 * z; }", "1 0 0 0", "big"},
		{"vars x, y, z; choose { x := M * x + z; } or { x := N * y + z; }", "1 0 0 0", "big"}, // x : y : z is -N : -M : M N
		{"vars x, y, z; choose { x := M * x + z; } or { x := M * y + z; }", "1 0 0 0", "M 0 1 0; 0 M 1 0"},
		{"vars x, y; choose { x := M * x; } or { x := N * y; }", "1 0 1", "M 0 1; 0 N 1"},
		{"vars x, y; choose { x := M * x + K * y; } or { x := x - y; }", "1 0 1", "big"}, // M + K
		{"vars x, y; x := M * x + N * y;", "1 0 1", "M N 1"},
		{"vars x, y; choose { x := M * x + y; } or { x := x - 2 * y; }", "1 0 1", "big"}, // 2 M + 1
		{"vars x, y; choose { x := N * x + y; } or { x := x - y; }", "1 0 1", power(32*api.MaxLimbs-1, -1).String() + " 0 1; 0 " + power(32*api.MaxLimbs-1, -1).String() + " -" + power(32*api.MaxLimbs-1, -2).String()},
		// The span of the first needs is too big, that of all is not.
		{"vars x, y, z; choose { x := x + M * y; } or { x := y + N * z; } or { x := z; }", "1 0 0 0", "1 0 0 0; 0 1 0 0; 0 0 1 0"},
		{"vars x, y, z; choose { x := x + M * y; } or { x := y + N * z; } or { x := 1; }", "1 0 0 0", "0 0 0 1"}, // no point meets them
		{"vars x, y, z; choose { x := M * x + z; } or { x := N * y + z; } or { x := z; }", "1 0 0 0", "1 0 0 0; 0 1 0 0; 0 0 1 0"},
		// It is at one point alone.
		{"vars x, y, z; x := 0; y := 0; z := 0; choose { x := M * x + z; } or { x := N * y + z; }", "1 0 0 0", "big"},
		{"vars x, y, z; choose { x := M * x + z; } or { x := N * y + z; } skip; x := z;", "0 0 0 0", ""},
		// Where no state is left, rows that say more are needs nevertheless.
		{"vars x; choose { x := 1; } or { x := 2 * x; }", "M 0", "0 1"},
		{"vars x; choose { x := 1; } or { x := 2 * x; }", "M 1", "big"},
		{"vars x, y; choose { x := 1; } or { x := 2 * x; }", "M K 1", "big"},
		// Rows that come round and round grow, until no state is left, or a need is too long.
		{"vars x; loop { x := 2 * x; }", "1 1", "0 1"},
		{"vars x; loop { x := x + 1; }", "1 M", "0 1"},
		{"vars x; loop { x := x - 1; }", "1 M", "big"},
		{"vars x, y; loop { x := K * x + y; }", "1 0 0", "big"},
		{"vars x, y; loop { x := y; y := K * x; }", "1 0 0", "1 0 0; 0 1 0"},
		{"vars x, y, z; loop { x := K * x + y; y := K * y + z; }", "1 0 0 0", "big"},
	} {
		g := graphed(t, spelt(x.text))
		n, e := back.Find(g, g.Exit(), numbers(x.row))
		switch {
		case x.want == "big":
			if n != nil || e != api.ErrTooBig {
				t.Errorf("P16.3: %s, %s: %v; want ErrTooBig", x.text, x.row, e)
			}
		case n == nil || e != api.OK:
			t.Errorf("P16.3, W7: %s, %s: %v", x.text, x.row, e)
		case sayRows(n.Rows(0)) != sayRowsOf(x.want):
			t.Errorf("P16.4: %s, %s: %s; want %s", x.text, x.row, sayRows(n.Rows(0)), x.want)
		}
		like(t, x.text, g, g.Exit(), numbers(x.row))
	}
}
