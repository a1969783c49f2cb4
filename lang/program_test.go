package lang_test

import (
	"slices"
	"strings"
	"testing"

	"rafter/api"
	"rafter/lang"
)

func TestDrawnPrograms(t *testing.T) { // P8.1, P8.2, P8.4, P8.5, P8.6
	s := &stream{81}
	for n := range 1500 {
		drawn, text, heads := s.short(n%3 == 0)
		p := parsed(t, text)
		if got, want := p.Print(), drawn.print(); got != want {
			t.Fatalf("P8.6: %q is printed as\n%swant\n%s", text, got, want)
		}
		if !slices.Equal(p.Vars(), drawn.vars()) || !slices.EqualFunc(p.Begins(), drawn.begins, equalBegin) {
			t.Fatalf("P8.4: %q: %q, %v", text, p.Vars(), p.Begins())
		}
		lines := p.Lines()
		if !slices.Equal(bare(lines), drawn.lines()) {
			t.Fatalf("P8.5: %q: %v, want %v", text, lines, drawn.lines())
		}
		for i, l := range lines {
			if l.At != heads[i] {
				t.Fatalf("P8.5: %q: %v, want it at %v", text, l, heads[i])
			}
		}
	}
}

func TestPrinted(t *testing.T) { // P8.6, and the chapter's examples
	for text, want := range map[string]string{
		"vars x,y=-3; x:=2*(x+y)\u22121; loop{y:=any;}": "vars x, y = -3;\nx := 2 * (x + y) - 1;\nloop {\n  y := any;\n}\n",
		"vars;":                                            "vars;\n",
		" # a program\n vars\n;#":                          "vars;\n",
		"vars x; if x = 1 { stop; } else { }":              "vars x;\nif x = 1 {\n  stop;\n} else {\n}\n",
		"vars x; if x = 1 { }":                             "vars x;\nif x = 1 {\n}\n",
		"vars x;choose{}":                                  "vars x;\nchoose {\n}\n",
		"vars x = -0, y = 00, z = -007;":                   "vars x = 0, y = 0, z = -7;\n",
		"vars; choose{skip;}or{stop;mark m;}or{}skip;":     "vars;\nchoose {\n  skip;\n} or {\n  stop;\n  mark m;\n} or {\n}\nskip;\n",
		"vars x; while (x) \u2260 ((1)) { loop { } }":      "vars x;\nwhile x != 1 {\n  loop {\n  }\n}\n",
		"vars a; if a=-1{if a!=2{a:=3;}else{a:=4;}}":       "vars a;\nif a = -1 {\n  if a != 2 {\n    a := 3;\n  } else {\n    a := 4;\n  }\n}\n",
		"vars a; loop { choose { } or { a := any; } }":     "vars a;\nloop {\n  choose {\n  } or {\n    a := any;\n  }\n}\n",
		"vars x; mark x; x := x;":                          "vars x;\nmark x;\nx := x;\n",
		"vars Vars, any1, ANY, \u0438f; mark OR; Vars:=1;": "vars Vars, any1, ANY, \u0438f;\nmark OR;\nVars := 1;\n",
	} {
		if got := parsed(t, text).Print(); got != want {
			t.Errorf("P8.6: %q is printed as\n%swant\n%s", text, got, want)
		}
	}
}

func TestLines(t *testing.T) { // P8.5: kinds, depths, texts and places
	text := "# one\nvars x , y = - 3 ;\nif x=y { \u0079 \u2254 any ; } else { choose{skip;} or\n{ mark \u03a9; } }\n  while 1 \u2260 x { loop { stop ; } x:=-(x); }"
	want := []api.Line{
		{Kind: api.LineVars, Text: "vars x, y = -3", At: place(6, 6, 2, 1)},
		{Kind: api.LineIf, Text: "if x = y", At: place(25, 25, 3, 1)},
		{Kind: api.LineAny, Depth: 1, Text: "y := any", At: place(34, 34, 3, 10)},
		{Kind: api.LineElse, Text: "else", At: place(48, 46, 3, 22)},
		{Kind: api.LineChoose, Depth: 1, Text: "choose", At: place(55, 53, 3, 29)},
		{Kind: api.LineSkip, Depth: 2, Text: "skip", At: place(62, 60, 3, 36)},
		{Kind: api.LineOr, Depth: 1, Text: "or", At: place(69, 67, 3, 43)},
		{Kind: api.LineMark, Depth: 2, Text: "mark \u03a9", At: place(74, 72, 4, 3)},
		{Kind: api.LineWhile, Text: "while 1 != x", At: place(89, 86, 5, 3)},
		{Kind: api.LineLoop, Depth: 1, Text: "loop", At: place(105, 100, 5, 17)},
		{Kind: api.LineStop, Depth: 2, Text: "stop", At: place(112, 107, 5, 24)},
		{Kind: api.LineSet, Depth: 1, Text: "x := -x", At: place(121, 116, 5, 33)},
	}
	got := parsed(t, text).Lines()
	if len(got) != len(want) {
		t.Fatalf("P8.5: %v", got)
	}
	for i, l := range got {
		if l != want[i] {
			t.Errorf("P8.5: %v, want %v", l, want[i])
		}
	}
}

func TestBegins(t *testing.T) { // P8.4, P8.2
	long := power(32*api.MaxLimbs, -1).String()
	p := parsed(t, "vars x, \u03b1 = -4294967296, y = -0, z = -"+long+", w = "+long+";")
	want := []api.Begin{{Name: "x", Any: true}, {Name: "\u03b1", Value: whole("-4294967296")}, {Name: "y"}, {Name: "z", Value: whole("-" + long)}, {Name: "w", Value: whole(long)}}
	if got := p.Begins(); !slices.EqualFunc(got, want, equalBegin) {
		t.Errorf("P8.4: %v, want %v", got, want)
	}
	if got := p.Vars(); !slices.Equal(got, []string{"x", "\u03b1", "y", "z", "w"}) {
		t.Errorf("P8.4: %q", got)
	}
	p = parsed(t, "vars; skip;")
	if len(p.Vars()) != 0 || len(p.Begins()) != 0 {
		t.Errorf("P8.4: %q, %v of no variable", p.Vars(), p.Begins())
	}
}

func TestLongest(t *testing.T) { // P8.3: at the limits all is well
	deep := strings.Repeat("choose{", api.MaxNest-1) + "x:=(1);" + strings.Repeat("}", api.MaxNest-1)
	for _, text := range []string{
		"vars x;" + strings.Repeat(" ", api.MaxText-7),
		"vars x;x:=" + strings.Repeat("-", api.MaxText-12) + "x;",
		"vars x;x:=x" + strings.Repeat("+x", (api.MaxText-12)/2) + ";",
		"vars x;" + strings.Repeat("skip;", (api.MaxText-7)/5),
		"vars x;" + deep + deep,
		"vars a,b,c,d,e,f,g,h;",
		"vars abcdefghijklmno, \u03b1\u03b2\u03b3\u03b4\u03b5\u03b6\u03b7\u03b8\u03b9\u03ba\u03bb\u03bc\u03bd\u03be\u2083; mark abcdefghijklmno;",
		"vars x = " + power(32*api.MaxLimbs, -1).String() + ";",
	} {
		p := parsed(t, text)
		if again, e, _ := lang.Parse(p.Print()); e == api.OK {
			sameProgram(t, "P8.9", again, p)
		} else if len(p.Print()) <= api.MaxText {
			t.Errorf("P8.9: %.60q: %v", p.Print(), e)
		}
	}
}
