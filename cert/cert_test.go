package cert_test

import (
	"strings"
	"testing"

	"rafter/api"
	"rafter/cert"
	"rafter/graph"
	"rafter/sketch"
	"rafter/solver"
)

// short is the program of the chapter's examples, shortText its certificate.
const (
	short     = "vars x = 3, y;"
	shortText = "point\nrow 1 0 3\nsample -1 -1 -1 -1 3 0\nsample -1 -1 -1 1 3 1\n"
)

func TestOf(t *testing.T) { // P15.1
	for _, x := range []struct{ text, want string }{
		{short, shortText},
		{"vars;", "point\nsample -1 -1 -1 -1\n"},
		{"vars x;", "point\nsample -1 -1 -1 -1 0\nsample -1 -1 -1 0 1\n"},
		{"vars x = 1; stop; x := 2;", "point\nrow 1 1\nsample -1 -1 -1 -1 1\npoint\nrow 0 1\npoint\nrow 0 1\n"},
		{"vars; stop;", "point\nsample -1 -1 -1 -1\npoint\nrow 1\n"},
		{"vars x = -5; x := any; x := x / x;", "point\nrow 1 -5\nsample -1 -1 -1 -1 -5\npoint\nsample 0 0 0 0 0\nsample 0 0 0 1 1\npoint\nsample 1 0 1 0 0\nsample 1 0 1 1 1\n"},
		{"vars x = M;", "point\nrow 1 M\nsample -1 -1 -1 -1 M\n"},
		{"vars x = 0, y = 1; loop { x := x + 1; y := y + 2; }", "point\nrow 1 0 0\nrow 0 1 1\nsample -1 -1 -1 -1 0 1\n" +
			"point\nrow 2 -1 -1\nsample 0 0 0 0 0 1\nsample 4 0 4 0 1 3\n" + "point\nrow 2 -1 -1\nsample 1 0 1 0 0 1\nsample 1 1 1 0 1 3\n" +
			"point\nrow 2 -1 1\nsample 2 0 2 0 1 1\nsample 2 1 2 0 2 3\n" + "point\nrow 2 -1 -1\nsample 3 0 3 0 1 3\nsample 3 1 3 0 2 5\n" +
			"point\nrow 2 -1 -1\nsample 1 0 5 0 0 1\nsample 1 1 5 0 1 3\n"},
	} {
		r := solved(t, x.text)
		c := cert.Of(r)
		if got := cert.Print(c); got != spelt(x.want) {
			t.Errorf("P15.1, P15.3: %s: %q; want %q", x.text, got, x.want)
		}
		checks(t, x.text, r.Graph(), c, api.OK, 0)
	}
	if len(cert.Of(nil)) != 0 || len(cert.Of(&solver.Result{})) != 0 {
		t.Error("P15.1: of nothing")
	}
}

func TestCheckExamples(t *testing.T) { // P15.2: each a certificate of the program ahead of it, with a part in the place of another one
	loop := "vars x = 0; loop { x := x + 1; x := any; }"
	free := "vars x; x := any; skip;"
	for _, x := range []struct {
		text, old, new string
		code           api.Errno
		at             int
	}{
		{short, "sample -1 -1 -1 1 3 1\n", "", api.ErrHull, 0},
		{short, "row 1 0 3", "row 2 0 6", api.ErrHull, 0},
		{short, "row 1 0 3", "row 1 0 4", api.ErrHull, 0},
		{short, "row 1 0 3", "row -1 0 -3", api.ErrHull, 0},
		{short, "row 1 0 3", "row 0 1 3", api.ErrHull, 0},
		{short, "row 1 0 3\n", "", api.ErrHull, 0},
		{short, "row 1 0 3\n", "row 1 0 3\nrow 0 0 0\n", api.ErrHull, 0},
		{short, "row 1 0 3\n", "row 1 0 3\nrow 1 0 3\n", api.ErrHull, 0},
		{short, "row 1 0 3\n", "row 0 0 1\n", api.ErrHull, 0},
		{short, "1 3 1\n", "0 3 1\n", api.ErrLink, 0},
		{short, "1 3 1\n", "2 3 1\n", api.ErrLink, 0},
		{short, "1 3 1\n", "-1 3 1\n", api.ErrLink, 0},
		{short, "1 3 1\n", "-2 3 1\n", api.ErrLink, 0},
		{short, "1 3 1\n", "1 3 2\n", api.ErrLink, 0},
		{short, "1 3 1\n", "1 3 -1\n", api.ErrLink, 0},
		{short, "-1 3 0\n", "1 3 0\n", api.ErrLink, 0},
		{short, "sample -1 -1 -1 1", "sample 0 -1 -1 1", api.ErrLink, 0},
		{short, "sample -1 -1 -1 1", "sample -1 0 -1 1", api.ErrLink, 0},
		{short, "sample -1 -1 -1 1", "sample -1 -1 0 1", api.ErrLink, 0},
		{short, "sample -1 -1 -1 1", "sample 0 0 0 1", api.ErrLink, 0},
		{short, "sample -1 -1 -1 1 3 1\n", "sample -1 -1 -1 1 3 1\nsample -1 -1 -1 -1 3 0\n", api.OK, 0}, // the same one twice
		{short, "sample -1 -1 -1 1 3 1\n", "sample -1 -1 -1 1 3 1\nsample -1 -1 -1 1 3 1\nsample -1 -1 -1 -1 3 0\n", api.ErrCert, 0},
		{short, "sample -1 -1 -1 -1 3 0\nsample -1 -1 -1 1 3 1\n", "sample -1 -1 -1 1 3 1\nsample -1 -1 -1 -1 3 0\n", api.OK, 0}, // the other way round
		{short, "row 1 0 3", "row 1 0", api.ErrCert, 0},
		{short, "row 1 0 3", "row 1 0 3 0", api.ErrCert, 0},
		{short, "row 1 0 3", "row", api.ErrCert, 0},
		{short, "row 1 0 3", "row 1 0 3\nrow 1 0 3\nrow 1 0 3\nrow 1 0 3", api.ErrCert, 0},
		{short, "1 3 1\n", "1 3 1 7\n", api.ErrCert, 0},
		{short, "1 3 1\n", "1 3\n", api.ErrCert, 0},
		{short, "1 3 1\n", "1 3 1\npoint\n", api.ErrCert, 0},
		{short, shortText, "", api.ErrCert, 0},
		{short, "row 1 0 3", "row 1 0 P", api.ErrNumber, 0},
		{short, "row 1 0 3", "row 1 0 -P", api.ErrNumber, 0},
		{short, "row 1 0 3", "row 1 0 M", api.ErrHull, 0},
		{short, "1 3 1\n", "1 3 P\n", api.ErrNumber, 0},
		{short, "1 3 1\n", "1 3 -M\n", api.ErrLink, 0},
		{loop, "sample 0 0 0 0 0", "sample 4 0 4 0 0", api.ErrLink, 1}, // it goes round
		{loop, "sample 0 0 0 0 0", "sample 0 0 0 1 0", api.ErrLink, 1},
		{loop, "sample 0 0 0 0 0", "sample 0 0 1 0 0", api.ErrLink, 1},
		{loop, "sample 0 0 0 0 0", "sample 0 1 0 0 0", api.ErrLink, 1},
		{loop, "sample 0 0 0 0 0", "sample -1 -1 -1 -1 0", api.ErrLink, 1}, // of the beginning, at another point
		{free, "sample 0 0 0 1 1", "sample 0 0 0 2 2", api.ErrLink, 1},
		{free, "sample 0 0 0 1 1", "sample 0 1 0 1 1", api.OK, 0}, // both come to both
		{free, "sample 0 0 0 1 1", "sample 0 2 0 1 1", api.ErrLink, 1},
		{free, "sample 0 0 0 1 1", "sample 0 0 9 1 1", api.ErrLink, 1},
		{free, "sample 0 0 0 1 1", "sample 0 0 -9223372036854775808 1 1", api.ErrLink, 1},
		{free, "sample 0 0 0 1 1", "sample 9223372036854775807 0 0 1 1", api.ErrLink, 1},
		{free, "sample 0 0 0 1 1", "sample 0 9223372036854775807 0 1 1", api.ErrLink, 1},
		{free, "sample 1 1 1 0 1", "sample 1 1 1 1 1", api.ErrLink, 2},
		{free, "sample 1 1 1 0 1", "sample 1 0 1 0 1", api.ErrLink, 2}, // the image of another one
	} {
		g := graphed(t, x.text)
		text := cert.Print(cert.Of(solved(t, x.text)))
		if !strings.Contains(text, x.old) {
			t.Fatalf("%s has no %q:\n%s", x.text, x.old, text)
		}
		c := parsed(t, strings.Replace(text, x.old, x.new, 1))
		checks(t, x.text+" with "+x.new, g, c, x.code, x.at)
		like(t, x.text, g, c)
	}
}

func TestCheckRefuses(t *testing.T) { // P15.2: whole certificates
	count := "vars x = 0; loop { x := x + 1; }"
	for _, x := range []struct {
		text, cert string
		code       api.Errno
		at         int
	}{
		{"vars x = 0; stop; x := 2;", "point\nrow 1 0\nsample -1 -1 -1 -1 0\npoint\nrow 1 0\nrow 0 1\npoint\nrow 0 1\n", api.ErrHull, 1}, // met by no point, but told otherwise
		{"vars x = 0; stop; x := 2;", "point\nrow 1 0\nsample -1 -1 -1 -1 0\npoint\nrow 0 1\npoint\nrow 0 2\n", api.ErrHull, 2},
		{"vars x = 0; stop; x := 2;", "point\nrow 1 0\nsample -1 -1 -1 -1 0\npoint\nrow 0 1\npoint\n", api.ErrHull, 2},                            // no sample is not all
		{"vars x = 0; stop; x := 2;", "point\nrow 1 0\nsample -1 -1 -1 -1 0\npoint\nrow 0 1\npoint\nrow 1 2\nsample 1 0 0 0 2\n", api.ErrLink, 2}, // it comes from a point without one
		{"vars x = 0; stop;", "point\nrow 1 0\nsample -1 -1 -1 -1 0\npoint\nrow 1 0\nsample 0 0 0 0 0\n", api.ErrLink, 1},                         // without an edge
		{"vars; stop;", "point\npoint\nrow 1\n", api.ErrHull, 0},
		{"vars; stop;", "point\nrow 1\npoint\nrow 1\n", api.ErrBegin, 0},
		{"vars; stop;", "point\nsample -1 -1 -1 -1\npoint\nrow 1\n", api.OK, 0},
		{"vars; stop;", "point\nsample -1 -1 -1 -1\nsample -1 -1 -1 -1\npoint\nrow 1\n", api.ErrCert, 0},
		{"vars x;", "point\nrow 1 0\nsample -1 -1 -1 -1 0\n", api.ErrBegin, 0},
		{"vars x;", "point\nrow 1 1\nsample -1 -1 -1 0 1\n", api.ErrBegin, 0},
		{"vars x = 7;", "point\nrow 0 1\n", api.ErrBegin, 0},
		{"vars x, y; y := x;", "point\nrow 0 1 0\nsample -1 -1 -1 -1 0 0\nsample -1 -1 -1 0 1 0\npoint\nrow 1 -1 0\nsample 0 0 0 0 0 0\nsample 0 1 0 0 1 1\n", api.ErrBegin, 0},
		// Too few samples, and rows that say as much.
		{count, "point\nrow 1 0\nsample -1 -1 -1 -1 0\npoint\nrow 1 0\nsample 0 0 0 0 0\npoint\nrow 1 0\nsample 1 0 1 0 0\npoint\nrow 1 1\nsample 2 0 2 0 1\npoint\nrow 1 0\nsample 1 0 4 0 0\n", api.ErrEdge, 3},
		{count, "point\nrow 1 0\nsample -1 -1 -1 -1 0\npoint\nrow 0 1\npoint\nrow 0 1\npoint\nrow 0 1\npoint\nrow 0 1\n", api.ErrEdge, 0},
		{count, "point\nrow 1 0\nsample -1 -1 -1 -1 0\npoint\nrow 1 0\nsample 0 0 0 0 0\npoint\nrow 1 0\nsample 1 0 1 0 0\npoint\nrow 1 1\nsample 2 0 2 0 1\npoint\nrow 0 1\n", api.ErrEdge, 3}, // the first of two
		{"vars x = 0; x := any;", "point\nrow 1 0\nsample -1 -1 -1 -1 0\npoint\nrow 1 0\nsample 0 0 0 0 0\n", api.ErrEdge, 0},
		{"vars x = 0; x := x * x;", "point\nrow 1 0\nsample -1 -1 -1 -1 0\npoint\nrow 1 1\nsample 0 0 0 1 1\n", api.ErrEdge, 0},                                                    // what no form tells may be any number
		{"vars x = 0; if x = 1 { }", "point\nrow 1 0\nsample -1 -1 -1 -1 0\npoint\nrow 0 1\npoint\nrow 1 0\nsample 0 0 1 0 0\npoint\nrow 1 0\nsample 2 0 3 0 0\n", api.ErrEdge, 0}, // conditions are not asked
		{"vars x = 0; if x = 1 { }", "point\nrow 1 0\nsample -1 -1 -1 -1 0\npoint\nrow 1 0\nsample 0 0 0 0 0\npoint\nrow 1 0\nsample 0 0 1 0 0\npoint\nrow 1 0\nsample 2 0 3 0 0\n", api.OK, 0},
		{"vars x = 0; if x = 1 { }", "point\nrow 1 0\nsample -1 -1 -1 -1 0\npoint\nrow 1 0\nsample 0 0 0 0 0\npoint\nrow 1 0\nsample 0 0 1 0 0\npoint\nrow 1 0\nsample 1 0 2 0 0\n", api.OK, 0}, // by the other way
		{"vars x; x := 2 * x; skip;", "point\nsample -1 -1 -1 -1 0\nsample -1 -1 -1 0 1\npoint\nsample 0 0 0 0 0\nsample 0 1 0 0 2\npoint\nrow 1 2\nsample 1 1 1 0 2\n", api.ErrEdge, 1},
	} {
		g := graphed(t, x.text)
		c := parsed(t, x.cert)
		checks(t, x.text+" "+x.cert, g, c, x.code, x.at)
		like(t, x.text, g, c)
	}
}

func TestFollowedBack(t *testing.T) { // P15.2: where a link is broken, and where that is met first
	g := graphed(t, "vars x = 0; loop { x := x + 1; }")
	text := "point\nrow 1 0\nsample -1 -1 -1 -1 0\n" + "point\nsample 0 0 0 0 0\nsample 3 0 3 0 1\n" + "point\nsample 1 0 1 0 0\nsample 1 1 1 0 1\n" + "point\nsample 2 0 2 0 1\nsample 2 1 2 0 2\n" + "point\nsample 1 0 4 0 0\nsample 1 1 4 0 1\n"
	checks(t, text, g, parsed(t, text), api.OK, 0)
	for _, x := range []struct {
		old, new string
		at       int
	}{
		{"2 0 2 0 1\n", "2 0 1 0 1\n", 3},     // over no edge from there; those that come from it go back nevertheless
		{"2 0 2 0 1\n", "2 0 2 1 1\n", 3},     // with a value
		{"2 0 2 0 1\n", "2 9 2 0 1\n", 1},     // from nowhere: so does what comes from it
		{"2 0 2 0 1\n", "9 0 2 0 1\n", 1},     //
		{"2 0 2 0 1\n", "-1 -1 -1 -1 1\n", 1}, // as if of the beginning, at a point where it isn't
		{"2 0 2 0 1\n", "2 1 2 0 1\n", 1},     // in a circle
		{"3 0 3 0 1\n", "3 1 3 0 1\n", 1},     // the image of another one
		{"1 1 1 0 1\n", "1 1 1 0 3\n", 2},     // no image
		{"1 1 4 0 1\n", "1 1 1 0 1\n", 4},     // over an edge to another point
		{"1 1 4 0 1\n", "4 1 4 0 1\n", 4},     // from itself
		{"0 0 0 0 0\n", "3 0 3 0 0\n", 1},
	} {
		c := parsed(t, strings.Replace(text, x.old, x.new, 1))
		checks(t, x.new, g, c, api.ErrLink, x.at)
		like(t, text, g, c)
	}
}

func TestFirstOfThese(t *testing.T) { // P15.2, R2: faults are put in from the last kind to the first; each one is told ahead of those that were there
	g := graphed(t, "vars x; x := x + 1; skip;")
	c := parsed(t, "point\nsample -1 -1 -1 -1 0\nsample -1 -1 -1 0 1\npoint\nsample 0 0 0 0 1\nsample 0 1 0 0 2\npoint\nsample 1 0 1 0 1\nsample 1 1 1 0 2\n")
	checks(t, "nothing", g, c, api.OK, 0)
	for _, x := range []struct {
		what string
		put  func()
		code api.Errno
		at   int
	}{
		{"too few at the end", func() { c[2] = parsed(t, "point\nrow 1 1\nsample 1 0 1 0 1\n")[0] }, api.ErrEdge, 1},
		{"too few in the middle", func() { c[1] = parsed(t, "point\nrow 1 1\nsample 0 0 0 0 1\n")[0] }, api.ErrEdge, 0},
		{"too few at the beginning", func() { c[0] = parsed(t, "point\nrow 1 0\nsample -1 -1 -1 -1 0\n")[0] }, api.ErrBegin, 0},
		{"a link of point 2", func() { c[2].Samples[0].Value = 1 }, api.ErrLink, 2},
		{"a link of point 1", func() { c[1].Samples[0].Edge = 1 }, api.ErrLink, 1},
		{"a row of point 2", func() { c[2].Rows = nil }, api.ErrHull, 2},
		{"a row of point 0", func() { c[0].Rows[0] = append(c[0].Rows[0][:1], c[0].Rows[0][0]) }, api.ErrHull, 0},
		{"a number of point 2", func() { c[2].Samples[0].State = parsed(t, "point\nrow P\n")[0].Rows[0] }, api.ErrNumber, 2},
		{"a number of point 1", func() { c[1].Rows = parsed(t, "point\nrow 1 -P\n")[0].Rows }, api.ErrNumber, 1},
		{"a state of point 2", func() { c[2].Samples[0].State = nil }, api.ErrCert, 2},
		{"rows of point 1", func() { c[1].Rows = append(c[1].Rows, nil) }, api.ErrCert, 1},
		{"a point more", func() { c = append(c, api.CertPoint{}) }, api.ErrCert, 0},
		{"no graph", func() { g = nil }, api.ErrArg, 0},
		{"nothing at all", func() { c = nil }, api.ErrArg, 0},
	} {
		x.put()
		checks(t, x.what, g, c, x.code, x.at)
		like(t, x.what, g, c)
	}
	checks(t, "a graph that no call made", &graph.Graph{}, nil, api.ErrArg, 0)
}

func TestLongOnTheWay(t *testing.T) { // P15.2, W7: an image that is too long, but lies in the hull of the others; and one that does not
	three := "vars x = 0, y = 0; choose { } or { y := 1; } or { y := 2; x := 1; } "
	r := solved(t, three+"x := M * y;")
	checks(t, "M y", r.Graph(), cert.Of(r), api.OK, 0)
	g := graphed(t, three+"x := M * y + x;")
	last := len(g.Edges()) - 1
	c := cert.Of(r)
	checks(t, "M y + x", g, c, api.ErrEdge, last)
	like(t, three, g, c)
}

// reached answers a certificate that is taken, if one is met by wandering.
func reached(s *stream, g *graph.Graph) ([]api.CertPoint, bool) {
	for range 200 {
		if c := s.wandered(g, false); taken(g, c) {
			return c, true
		}
	}
	return nil, false
}

func TestNotFound(t *testing.T) { // P15.2, P15.6: Solve answers ErrTooBig, but there is a certificate of short numbers
	s := &stream{11}
	for _, x := range []struct{ text, rows string }{
		{"vars x = 0, y = 0; choose { skip; skip; skip; y := 1; } or { skip; skip; skip; } or { y := 2; } x := M * y;", "1 -M 0"}, // by other samples
		{"vars x, y, z, w; x := M * z + N * w; y := N * z + K * w;", "1 0 -M -N 0; 0 1 -N -K 0"},                                  // of a hull whose points are too long to be told, but not its rows
	} {
		g := graphed(t, x.text)
		if r, e := solver.Solve(g); r != nil || e != api.ErrTooBig {
			t.Errorf("%s: %v; want ErrTooBig", x.text, e)
		}
		c, ok := reached(s, g)
		if !ok {
			t.Errorf("P15.2: %s: no certificate is taken", x.text)
			continue
		}
		if got := sayRows(c[g.Exit()].Rows); got != spelt(x.rows) {
			t.Errorf("P15.6: %s: %s; want %s", x.text, got, x.rows)
		}
		like(t, x.text, g, c)
		sound(t, s, x.text, g, c)
		exact(t, x.text, g, c)
	}
}

func TestTooLongToTell(t *testing.T) { // P15.2: the rows of the samples' hull are too long: no rows are right
	g := graphed(t, "vars x = 0, y = 0; choose { x := M; } or { y := N; }")
	begin := "point\nrow 1 0 0\nrow 0 1 0\nsample -1 -1 -1 -1 0 0\n"
	text := begin + "point\nrow 1 0 0\nrow 0 1 0\nsample 0 0 0 0 0 0\n" + "point\nrow 1 0 M\nrow 0 1 0\nsample 1 0 1 0 M 0\n" +
		"point\nrow 1 0 0\nrow 0 1 0\nsample 0 0 2 0 0 0\n" + "point\nrow 1 0 0\nrow 0 1 N\nsample 3 0 3 0 0 N\n" + "point\nROWSsample 2 0 4 0 M 0\nsample 4 0 5 0 0 N\n"
	for rows, code := range map[string]api.Errno{"": api.ErrHull, "row N M 0\n": api.ErrHull, "row N M M\n": api.ErrHull, "row 0 0 1\n": api.ErrHull, "row N M " + power(2048, 1).String() + "\n": api.ErrNumber} {
		c := parsed(t, strings.Replace(text, "ROWS", rows, 1))
		checks(t, rows, g, c, code, 5)
		like(t, rows, g, c)
	}
}

func TestLargest(t *testing.T) { // P15.5: as many points and variables as there may be, long numbers, and samples everywhere
	text := "vars a, b, c, d, e, f, g, h; loop { "
	for i := range 40 {
		v := i % api.MaxVars
		text += sketch.Letters[v:v+1] + " := 4294967297 * " + sketch.Letters[v:v+1] + " + " + sketch.Letters[(v+3)%8:(v+3)%8+1] + "; "
	}
	for range api.MaxPoints - 4 - 40 {
		text += "skip; "
	}
	r := solved(t, text+"}")
	g := r.Graph()
	if g.Points() != api.MaxPoints {
		t.Fatalf("%d points", g.Points())
	}
	c := cert.Of(r)
	checks(t, "as many as there may be", g, c, api.OK, 0)
	if len(c[g.Exit()].Samples) != api.MaxVars+1 {
		t.Errorf("%d samples", len(c[g.Exit()].Samples))
	}
	c[g.Exit()].Samples[api.MaxVars].Value = 1
	checks(t, "with a value", g, c, api.ErrLink, g.Exit())
}
