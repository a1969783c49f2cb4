package prune_test

import (
	"fmt"
	"strings"
	"testing"

	"rafter/api"
	"rafter/graph"
	"rafter/guard"
	"rafter/lang"
	"rafter/prune"
)

// leaves fails the test, if of a text not this is left, as onOneLine tells it.
func leaves(t *testing.T, what, text, want string) {
	t.Helper()
	p := parsed(t, text)
	if got := onOneLine(pruned(t, p)); got != spelt(want) {
		t.Errorf("%s: %s: %s; want %s", what, text, got, want)
	}
	like(t, text, p, pruned(t, p), map[string]int{})
}

func TestChapter(t *testing.T) { // the chapter's examples
	for text, want := range map[string]string{
		"vars x = 2, y; y := x + 1; x := 2; skip;":                                                                     "vars x = 2, y;|y := 3;",
		"vars x = 1; if x = 1 { x := x + 1; } else { x := 9; }":                                                        "vars x = 1;|x := 2;",
		"vars x = 0, y = 0; loop { x := x + 1; y := y + 1; } if x = y { skip; } else { x := 7; }":                      "vars x = 0, y = 0;|loop {|x := x + 1;|y := y + 1;|}",
		"vars x = 3; while x = 4 { x := 3; } stop; x := 1;":                                                            "vars x = 3;|stop;",
		"vars x; x := any; x := x - x;":                                                                                "vars x;|x := any;|x := 0;",
		"vars x = 1, y; y := x + 1; x := 1; skip; if x = 1 { y := y - 2 * x; } else { stop; } while y = 5 { y := 0; }": "vars x = 1, y;|y := 2;|y := 0;",
	} {
		leaves(t, "P18.1", text, want)
	}
}

func TestNoSample(t *testing.T) { // P18.1.1
	for text, want := range map[string]string{
		"vars x; stop; mark m; x := any; x := 1; choose { stop; } or { } loop { } if x = 1 { } else { } while x = x { } stop;": "vars x;|stop;",
		"vars x; choose { stop; x := 1; } or { stop; } mark m; skip;":                                                          "vars x;|choose {|stop;|} or {|stop;|}",
		"vars x; choose { stop; x := 1; mark n; } or { } mark m;":                                                              "vars x;|choose {|stop;|} or {|}|mark m;",
		"vars x; loop { stop; x := 1; } mark m;":                                                                               "vars x;|loop {|stop;|}|mark m;",
		"vars x; if x = 1 { stop; } else { stop; } while x = 2 { }":                                                            "vars x;|if x = 1 {|stop;|} else {|stop;|}",
		"vars x; while x = 2 { stop; while x = 3 { } } mark m;":                                                                "vars x;|while x = 2 {|stop;|}|mark m;",
		"vars x; choose { stop; choose { mark m; } or { x := any; } } or { x := any; }":                                        "vars x;|choose {|stop;|} or {|x := any;|}",
		"vars x = 1; if x = 1 { stop; mark m; } mark n;":                                                                       "vars x = 1;|stop;|mark n;",
		"vars x = 1; while x = 1 { stop; } mark n; x := 1;":                                                                    "vars x = 1;|while x = 1 {|stop;|}|mark n;",
		"vars; stop; stop;": "vars;|stop;",
	} {
		leaves(t, "P18.1.1", text, want)
	}
}

func TestAssigned(t *testing.T) { // P18.1.2, P18.1.3
	for text, want := range map[string]string{
		"vars; skip; mark m; skip;": "vars;|mark m;",
		// what the variable is already
		"vars x; x := x;":                                                 "vars x;",
		"vars x = -2; x := 0 - 2;":                                        "vars x = -2;",
		"vars x = 0; x := 0 * 3;":                                         "vars x = 0;",
		"vars x = M; x := M; x := x;":                                     "vars x = M;",
		"vars x, y; y := x; x := y; y := 2 * y - x;":                      "vars x, y;|y := x;",
		"vars x = 4, y; x := 8 / 2; y := x; x := y;":                      "vars x = 4, y;|y := 4;",
		"vars x = 0, y = 1; x := 0 * y; y := y + x;":                      "vars x = 0, y = 1;",
		"vars x; x := 3; loop { x := 3; } x := 4;":                        "vars x;|x := 3;|loop {|}|x := 4;",
		"vars x = 0, y = 0; loop { x := x + 2; y := y + 4; } y := 2 * x;": "vars x = 0, y = 0;|loop {|x := x + 2;|y := y + 4;|}",
		// one number
		"vars x; x := 5;": "vars x;|x := 5;",
		"vars x; x := 2 + 3; x := -7; x := 3 - (3);":    "vars x;|x := 5;|x := -7;|x := 0;",
		"vars x; x := --5;":                             "vars x;|x := 5;",
		"vars x; x := ---5;":                            "vars x;|x := -5;",
		"vars x; x := -0;":                              "vars x;|x := 0;",
		"vars x; x := -(5);":                            "vars x;|x := -5;",
		"vars x = 2, y; y := x - 4;":                    "vars x = 2, y;|y := -2;",
		"vars x = 2; x := x + 1; x := x + 1;":           "vars x = 2;|x := 3;|x := 4;",
		"vars x = M, y; y := -x;":                       "vars x = M, y;|y := -M;",
		"vars x = K, y; y := 2 * x - x - 1 + 1;":        "vars x = K, y;|y := K;",
		"vars x; x := M;":                               "vars x;|x := M;",
		"vars x, y; y := 0 * x; x := x - x + 1;":        "vars x, y;|y := 0;|x := 1;",
		"vars x; x := 7 / 2; x := -7 / 2; x := -7 % 2;": "vars x;|x := 3;|x := -4;|x := 1;",
		"vars x = 0, y = 0, z; choose { x := 1; } or { y := 1; } z := x + y; z := x;": "vars x = 0, y = 0, z;|choose {|x := 1;|} or {|y := 1;|}|z := 1;|z := x;",
		"vars x = 1, y = 0; loop { y := 3 * x; } x := y;":                             "vars x = 1, y = 0;|loop {|y := 3;|}|x := y;",
		"vars x, y; y := 3 - x; y := x + y; y := x + y;":                              "vars x, y;|y := 3 - x;|y := 3;|y := x + y;",
		// neither
		"vars x, y; x := y; y := x + 1;": "vars x, y;|x := y;|y := x + 1;",
		"vars x; x := x + 1;":            "vars x;|x := x + 1;",
		"vars x = 0; loop { x := 1; }":   "vars x = 0;|loop {|x := 1;|}",
		"vars x; x := any; x := any;":    "vars x;|x := any;|x := any;",
		"vars x = 1; x := any;":          "vars x = 1;|x := any;",
		// without a form, though always the same
		"vars x = 4; x := x / 1;":            "vars x = 4;|x := x / 1;",
		"vars x = 4; x := x % 5;":            "vars x = 4;|x := x % 5;",
		"vars x, y; x := 0 * (y * y);":       "vars x, y;|x := 0 * (y * y);",
		"vars x = 2; x := x * x;":            "vars x = 2;|x := x * x;",
		"vars x; x := 1 / 0; x := 1 / 0;":    "vars x;|x := 1 / 0;|x := 1 / 0;",
		"vars x, y; x := x * y - x * y + x;": "vars x, y;|x := x * y - x * y + x;",
		"vars x, y = 3; x := y * y; x := y;": "vars x, y = 3;|x := y * y;|x := 3;",
	} {
		leaves(t, "P18.1.3", text, want)
	}
}

func TestBranched(t *testing.T) { // P18.1.4
	for text, want := range map[string]string{
		"vars x = 1; if x = 1 { mark a; } else { mark b; }":  "vars x = 1;|mark a;",
		"vars x = 1; if x != 1 { mark a; } else { mark b; }": "vars x = 1;|mark b;",
		"vars x = 1; if x = 2 { mark a; } else { mark b; }":  "vars x = 1;|mark b;",
		"vars x = 1; if x != 2 { mark a; } else { mark b; }": "vars x = 1;|mark a;",
		"vars x = 1; if x = 1 { mark a; }":                   "vars x = 1;|mark a;",
		"vars x = 1; if x != 1 { mark a; }":                  "vars x = 1;",
		"vars x = 1; if x = 2 { mark a; }":                   "vars x = 1;",
		"vars x = 1; if x = 1 { } else { mark b; }":          "vars x = 1;",
		"vars x = 0; if 2 * x = 1 { mark a; }":               "vars x = 0;",
		"vars x; if 2 * x = 1 { mark a; }":                   "vars x;|if 2 * x = 1 {|mark a;|}",
		"vars x; if x = x { mark a; } if x != x { mark b; }": "vars x;|mark a;",
		"vars x; if x = x + 1 { mark a; } else { mark b; }":  "vars x;|mark b;",
		"vars x, y; if x = y { mark a; } else { }":           "vars x, y;|if x = y {|mark a;|} else {|}",
		"vars x, y; if x != y { skip; } else { skip; }":      "vars x, y;|if x != y {|} else {|}",
		"vars x, y; x := 2 * y; if x - y = y { mark a; }":    "vars x, y;|x := 2 * y;|mark a;",
		"vars x, y; x := 2 * y; if x - y = y + 3 { stop; }":  "vars x, y;|x := 2 * y;",
		"vars x, y; x := 2 * y; if x = y { mark a; }":        "vars x, y;|x := 2 * y;|if x = y {|mark a;|}",
		"vars; if 1 = 1 { mark a; } if 1 = 2 { mark b; }":    "vars;|mark a;",
		"vars; if 1 != 2 { if 7 / 2 = 3 { mark a; } skip; }": "vars;|mark a;",
		"vars x = 0; if x = 0 { x := 1; x := x + 1; skip; }": "vars x = 0;|x := 1;|x := 2;",
		"vars x = 0; if x = 1 { } else { x := 2; x := x; }":  "vars x = 0;|x := 2;",
		"vars x = 0; if x = 1 { stop; } x := x + 0;":         "vars x = 0;",
		// blocks in blocks, in their place among others
		"vars x = 1; mark a; if x = 1 { if x != 1 { stop; } else { loop { if x = 1 { mark b; } } choose { skip; } or { x := any; } } } mark c;": "vars x = 1;|mark a;|loop {|mark b;|}|choose {|} or {|x := any;|}|mark c;",
		// no row
		"vars x = 2; if x * x = 4 { mark a; }":                 "vars x = 2;|if x * x = 4 {|mark a;|}",
		"vars x = 2; if x / 1 = 2 { mark a; } else { }":        "vars x = 2;|if x / 1 = 2 {|mark a;|} else {|}",
		"vars x = 2; if 0 * (x * x) = 0 { skip; }":             "vars x = 2;|if 0 * (x * x) = 0 {|}",
		"vars x = 2; if x = 1 / 0 { skip; x := 2; }":           "vars x = 2;|if x = 1 / 0 {|}",
		"vars x = 2; if x = M + 1 { skip; }":                   "vars x = 2;|if x = M + 1 {|}",
		"vars x = 2; if (M + 1) * x = 1 { skip; }":             "vars x = 2;|if (M + 1) * x = 1 {|}",
		"vars x = 2; if x = M { mark a; }":                     "vars x = 2;",
		"vars x = 2; if (M + 1) * x = M + 1 { mark a; }":       "vars x = 2;",
		"vars x = 2; if (M + 1) * x = 2 * (M + 1) { mark a; }": "vars x = 2;|mark a;",
		"vars x = M; if x != -M { mark a; } else { stop; }":    "vars x = M;|mark a;",
		// a sample to which no run comes counts
		"vars x = 5; if x = 1 { x := 7; } if x = 5 { mark a; }":            "vars x = 5;|if x = 5 {|mark a;|}",
		"vars x = 5, y = 2; if x * y = 1 { x := 7; } if x = 5 { mark a; }": "vars x = 5, y = 2;|if x * y = 1 {|x := 7;|}|if x = 5 {|mark a;|}",
	} {
		leaves(t, "P18.1.4", text, want)
	}
}

func TestRepeated(t *testing.T) { // P18.1.5
	for text, want := range map[string]string{
		"vars x = 3; while x = 4 { x := 3; }":                      "vars x = 3;",
		"vars x = 3; while x != 3 { mark a; }":                     "vars x = 3;",
		"vars x = 3; while x = 3 { x := x + 0; mark a; skip; }":    "vars x = 3;|while x = 3 {|mark a;|}",
		"vars x = 3; while x != 4 { skip; }":                       "vars x = 3;|while x != 4 {|}",
		"vars x; while x != x { x := any; }":                       "vars x;",
		"vars x; while x = x + 1 { x := any; }":                    "vars x;",
		"vars x; while x = x { }":                                  "vars x;|while x = x {|}",
		"vars x; while x = 1 { x := 1; }":                          "vars x;|while x = 1 {|x := 1;|}",
		"vars x = 0; while 2 * x = 1 { }":                          "vars x = 0;",
		"vars; while 1 = 2 { stop; } while 1 != 2 { mark a; }":     "vars;|while 1 != 2 {|mark a;|}",
		"vars x, y; y := x + 1; while y = x { stop; } y := x + 1;": "vars x, y;|y := x + 1;",
		// the hull at the head is the one, with what comes back to it
		"vars x = 3; while x = 4 { x := x + 1; }":                             "vars x = 3;|while x = 4 {|x := x + 1;|}",
		"vars x = 3; while x = 4 { x := any; } x := 3;":                       "vars x = 3;|while x = 4 {|x := any;|}|x := 3;",
		"vars x = 3, y; while x = 4 { y := y + x; x := 2 + 1; }":              "vars x = 3, y;",
		"vars x = 0, y = 0; while x != y { x := x + 1; y := y + 1; } mark a;": "vars x = 0, y = 0;|mark a;",
		"vars x = 0, y = 1; while x = y { x := x + 1; y := y + 1; } mark a;":  "vars x = 0, y = 1;|mark a;",
		"vars x = 0, y = 1; while x = y { x := x + 1; y := y + 2; } mark a;":  "vars x = 0, y = 1;|while x = y {|x := x + 1;|y := y + 2;|}|mark a;",
		// no row
		"vars x = 2; while x * x = 3 { }":           "vars x = 2;|while x * x = 3 {|}",
		"vars x = 2; while x = M + 1 { }":           "vars x = 2;|while x = M + 1 {|}",
		"vars x = 2; while x = M { }":               "vars x = 2;",
		"vars x = 2; while M + 1 = (M + 1) * x { }": "vars x = 2;",
		// within others
		"vars x = 1; loop { while x = 2 { loop { } } if x != 1 { while x = 1 { } } else { while x = 1 { skip; } } }": "vars x = 1;|loop {|while x = 1 {|}|}",
	} {
		leaves(t, "P18.1.5", text, want)
	}
}

func TestStays(t *testing.T) { // P18.1.6, P18.6: a program of which all stays
	for _, text := range []string{
		"vars;",
		"vars x = -3, y, z = M;",
		"vars x; x := any; x := any; mark a; choose { } or { } or { mark b; } loop { } loop { loop { } } stop;",
		"vars x = 1; x := any; x := 1; x := 2; loop { x := any; }",
		"vars x; choose { } loop { choose { stop; } or { mark a; } } mark b; mark c;",
		"vars x, y; if x = y { } else { } if x != y { } while x = y { } while y != x { x := x + y; }",
		"vars x, y; x := x * y; y := (x + 1) / y % 2; if x * x = y { x := 3; } else { y := 1; }",
	} {
		p := parsed(t, text)
		q := pruned(t, p)
		if told(q) != told(p) {
			t.Errorf("P18.6: %s: %s", text, q.Print())
		}
		if n, e := prune.Count(p); n != 0 || e != api.OK {
			t.Errorf("P18.2: %s: %d, %v", text, n, e)
		}
		if q == p {
			t.Errorf("R3: %s: one program", text)
		}
	}
}

// scattered has one statement a line, some of them in others that go.
const scattered = `# where things stand
 vars x = 1, y;
skip; if x = 1 {
  if x != 1 { stop; } else
    { x := any; skip; y :=
         2 + 2; }
} choose
{ skip; }
 or { while y = x { y := x * x; skip; } } if x = y { }
  else {
    mark α; }`

func TestPlaces(t *testing.T) { // P18.1.6: lines and edges stand where they stood
	p := parsed(t, scattered)
	q := pruned(t, p)
	var got []string
	for _, l := range q.Lines() {
		got = append(got, fmt.Sprintf("%d %d %s %d:%d", l.Kind, l.Depth, l.Text, l.At.Line, l.At.Column))
	}
	want := []string{
		"1 0 vars x = 1, y 2:2", "3 0 x := any 5:7", "2 0 y := 4 5:23", "7 0 choose 7:3", "8 0 or 9:2", "12 1 while y = x 9:7", "2 2 y := x * x 9:21", "10 0 if x = y 9:43", "11 0 else 10:3", "6 1 mark α 11:5",
	}
	if fmt.Sprint(got) != fmt.Sprint(want) {
		t.Errorf("P18.1: %q; want %q", got, want)
	}
	g, e := graph.Of(q)
	if e != api.OK {
		t.Fatalf("P10.1: %v", e)
	}
	got = nil
	for _, d := range g.Edges() {
		got = append(got, fmt.Sprintf("%d-%d %d %d:%d", d.From, d.To, d.Kind, d.At.Line, d.At.Column))
	}
	want = []string{
		"0-1 3 5:7", "1-2 2 5:23", "2-3 5 7:3", "2-4 5 7:3", "4-5 1 9:7", "5-6 6 9:7", "6-7 4 9:21", "7-5 1 9:7", "5-8 6 9:7", "3-9 1 7:3", "8-9 1 7:3", "9-10 6 9:43", "9-11 6 9:43", "10-12 1 9:43", "11-12 1 9:43",
	}
	if fmt.Sprint(got) != fmt.Sprint(want) {
		t.Errorf("P18.1: %q; want %q", got, want)
	}
	if pure, at := guard.Pure(q); pure || at.Line != 9 || at.Column != 7 {
		t.Errorf("P9.4: %v, %v", pure, at)
	}
}

// refused fails the test, if a program is not refused with e, or if it has changed.
func refused(t *testing.T, what string, p *lang.Program, e api.Errno) {
	t.Helper()
	if q, got := prune.Prune(p); q != nil || got != e {
		t.Errorf("P18.1: %.200s: %v", what, got)
	}
	if n, got := prune.Count(p); n != 0 || got != e {
		t.Errorf("P18.2: %.200s: %d, %v", what, n, got)
	}
}

func TestRefused(t *testing.T) { // P18.1, P18.2: what graph.Of and solver.Solve refuse
	refused(t, "nil", nil, api.ErrArg)
	prune.Prune(&lang.Program{}) // R1: it ends, whatever it answers
	for _, text := range []string{
		"vars; " + strings.Repeat("skip; ", api.MaxPoints),
		"vars x; stop; " + strings.Repeat("x := x * x; ", api.MaxPoints-1),
		"vars x; x := M + 1;",
		"vars x; stop; x := (M + 1) * x;",
		"vars x; x := x + (M + 1) - 1 + 1;",
		"vars x = M; x := x + 1;",
		"vars x = K; x := K * x;",
		"vars x = M; if x = 1 { x := x + 1; }",
		"vars x = 3; while x = 4 { x := M * x; }",
		"vars x = M, y = 3; choose { skip; } or { x := K; y := N; }", // a hull that is too big
	} {
		p := parsed(t, text)
		was := told(p)
		refused(t, text, p, api.ErrTooBig)
		if told(p) != was {
			t.Errorf("R7: %.200s", text)
		}
	}
}

func TestAtTheLimits(t *testing.T) { // what is not refused
	for text, want := range map[string]string{
		"vars; " + strings.Repeat("skip; ", api.MaxPoints-1):                        "vars;",
		"vars x; " + strings.Repeat("x := x * x; ", api.MaxPoints-1):                "vars x;" + strings.Repeat("|x := x * x;", api.MaxPoints-1),
		"vars x = M, y; y := x; x := -M;":                                           "vars x = M, y;|y := M;|x := -M;",
		"vars x; stop; x := M * x;":                                                 "vars x;|stop;",
		"vars x; x := M + 1 - 1;":                                                   "vars x;|x := M;",
		"vars x; x := M + 1 - 1 + 0 * x;":                                           "vars x;|x := M;",
		"vars x; x := (M + 1) / (M + 1); x := (M + 1) % (M + 1);":                   "vars x;|x := 1;|x := 0;",
		"vars x = M; x := x * x;":                                                   "vars x = M;|x := x * x;",
		"vars x = M; while x + 1 = 0 { x := x - 1 + 1; }":                           "vars x = M;",
		"vars x = M, y = 1; if M * x + M * y = 0 { stop; } y := x - M * y + 5 - 4;": "vars x = M, y = 1;",
	} {
		leaves(t, "P18.1", text, want)
	}
}

func TestDeep(t *testing.T) { // blocks in blocks, as many as there may be
	text, want := "vars x = 1; ", "vars x = 1;"
	for n := range api.MaxNest {
		text += []string{"if x = 1 { ", "choose { skip; } or { "}[n%2]
		want += []string{"", "|choose {|} or {"}[n%2]
	}
	text += "x := x + 1; skip; x := 1; " + strings.Repeat("} ", api.MaxNest)
	want += "|x := 2;|x := 1;" + strings.Repeat("|}", api.MaxNest/2)
	leaves(t, "P18.1", text, want)
}
