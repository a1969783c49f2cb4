package guard_test

import (
	"slices"
	"strconv"
	"strings"
	"testing"

	"rafter/api"
	"rafter/guard"
	"rafter/lang"
)

// sameHard fails the test if Hard does not tell these lines, or Pure does not go with them.
func sameHard(t *testing.T, text string, want []int) {
	t.Helper()
	p := parsed(t, text)
	if got := guard.Hard(p); !slices.Equal(got, want) {
		t.Fatalf("P9.4: Hard of %.300q: %v, want %v", text, got, want)
	}
	var first api.Place
	if len(want) > 0 {
		first = p.Lines()[want[0]].At
	}
	if ok, at := guard.Pure(p); ok != (len(want) == 0) || at != first {
		t.Fatalf("P9.4: Pure of %.300q: %v at %v, want it at %v", text, ok, at, first)
	}
}

func TestHard(t *testing.T) { // P9.4, and the chapter's example
	for text, want := range map[string][]int{
		"vars x; if x = 1 { x := x * x; } skip;": {1, 2}, "vars;": nil, "vars x;": nil, "vars x = 4, y;": nil,
		"vars x; skip;": nil, "vars x; stop;": nil, "vars x; mark m;": nil, "vars x; x := any;": nil, "vars x; choose { }": nil, "vars x; choose { } or { }": nil, "vars x; loop { }": nil, "vars x; x := 2 * x + 1;": nil, "vars x; x := 0 * x * x;": nil, "vars x; x := 7 / 2 * x;": nil,
		"vars x; if x = x { }": {1}, "vars; if 1 = 1 { } else { }": {1}, "vars x; while x = 1 { }": {1}, "vars; while 1 != 1 { }": {1}, "vars x; x := x * x;": {1}, "vars x; x := 0 * (x * x);": {1}, "vars x; x := x / 1;": {1}, "vars x; x := 1 / 0;": {1}, "vars x; x := x % 2;": {1},
		"vars x; choose { skip; } or { while x = 1 { x := x * x; } }":                                     {4, 5},
		"vars x; x := x / 2; x := x * x; x := x;":                                                         {1, 2},
		"vars x; loop { loop { loop { x := x * x; } x := x; } x := x % 2; }":                              {4, 6},
		"vars x; if x = 1 { skip; } else { x := x * x; } x := x * x;":                                     {1, 4, 5},
		"vars x; if x = 1 { } else { } x := x / 2;":                                                       {1, 3},
		"vars x; choose { } or { } or { x := x / 2; } or { } x := x / 3;":                                 {4, 6},
		"vars x; while x = 1 { if x = 2 { while x = 3 { } } else { if x = 4 { } } } stop; x := x / x;":    {1, 2, 3, 5, 7},
		"vars x; choose { if x = 1 { } } or { loop { if x != 1 { } else { } } } mark a; if 1 = 1 { }":     {2, 5, 8},
		"vars x, y; x := y; y := x - y; loop { choose { x := any; } or { y := 3 * (x - 7) * (1 + 1); } }": nil,
	} {
		sameHard(t, text, want)
	}
}

func TestPurePlace(t *testing.T) { // P9.4, and the chapter's example
	for text, bytes := range map[string]int{
		"vars x; loop { x := x + 1; } x := x / 2;": 29, "vars x; x := x; if x = 1 { x := x / 2; }": 16, "vars x;\n\n  while x = 1 { }": 11, "vars \u03b1; # \u00e9 x := x / 2\n \u03b1 := \u03b1; \u03b1\u2254\u03b1\u00d7\u03b1;": 36, "vars x; choose { skip; } or { x := x * x; }": 30, "vars x; loop { if 1 = 1 { x := x * x; } } if 1 = 1 { }": 15, "vars x; x := x * x; x := x * x;": 8,
	} {
		if ok, at := guard.Pure(parsed(t, text)); ok || at != placeOf(text, bytes) {
			t.Errorf("P9.4: Pure of %q: %v at %v, want it at %v", text, ok, at, placeOf(text, bytes))
		}
	}
}

func TestNoProgram(t *testing.T) { // P9.4
	if ok, at := guard.Pure(nil); ok || at != (api.Place{}) {
		t.Errorf("P9.4: Pure of nil: %v at %v", ok, at)
	}
	if got := guard.Hard(nil); len(got) != 0 {
		t.Errorf("P9.4: Hard of nil: %v", got)
	}
	guard.Pure(&lang.Program{}) // R1: it ends, whatever it answers
	guard.Hard(&lang.Program{})
}

func TestHardAtLimits(t *testing.T) { // P9.4: as they are printed these expressions are longer than a text may be
	m := most.String()
	const room = api.MaxText - len("vars x;x:=;")
	for text, want := range map[string][]int{
		"vars x;x:=x" + strings.Repeat("+x", room/2-1) + ";":                                       nil,
		"vars x;x:=x" + strings.Repeat("*1", room/2-1) + ";":                                       nil,
		"vars x;x:=x" + strings.Repeat("/1", room/2-1) + ";":                                       {1},
		"vars x;x:=x*x" + strings.Repeat("-1", room/2-2) + ";":                                     {1},
		"vars x;x:=" + strings.Repeat("-", room-1) + "x;":                                          nil,
		"vars x;if x" + strings.Repeat("+x", room/2-8) + "=x{x:=x;}":                               {1},
		"vars x;x:=" + strings.Repeat(m+"*", 12) + "x;":                                            nil, // and its form has long numbers
		"vars x;x:=" + strings.Repeat(m+"*", 11) + "x*x;":                                          {1},
		"vars x;" + strings.Repeat("loop{", api.MaxNest) + "x:=x/1;" + strings.Repeat("}", 16):     {17},
		"vars a,b,c,d,e,f,g,h;" + strings.Repeat("h:=a*7;", (api.MaxText-28)/7) + "h:=a*b;":        {(api.MaxText-28)/7 + 1},
		"vars a,b,c,d,e,f,g,h;choose{h:=g*f;}" + strings.Repeat("or{}", 900) + "h:=(g-f)*(a-a+1);": {2},
	} {
		sameHard(t, text, want)
	}
}

// drawing is a program that is being drawn: its text, how many lines it has, and which of them must be hard, with the places of their statements.
type drawing struct {
	*stream
	text  strings.Builder
	lines int
	marks int
	hard  []int
	at    []int
}

// head begins a statement.
func (d *drawing) head(hard bool, text string) {
	if hard {
		d.hard = append(d.hard, d.lines)
		d.at = append(d.at, d.text.Len())
	}
	d.lines++
	d.text.WriteString(text)
}

// gap writes what may stand between two tokens.
func (d *drawing) gap() {
	d.text.WriteString(d.pick(" ", "\n", "\t", " # if x = 1 \u00e9\n", "\u3000"))
}

// block draws a block.
func (d *drawing) block(deep int) {
	d.text.WriteString("{")
	d.statements(deep)
	d.text.WriteString("}")
	d.gap()
}

// statements draws statements that are nested so deep at most.
func (d *drawing) statements(deep int) {
	for range d.below(4) {
		d.gap()
		d.statement(deep)
	}
}

// statement draws a statement.
func (d *drawing) statement(deep int) {
	n := d.below(11)
	if deep == 0 {
		n %= 7
	}
	cond := d.tree(d.below(2), xy).short() + d.pick("=", "!=") + d.tree(d.below(2), xy).short()
	switch n {
	case 0:
		d.head(false, "skip;")
	case 1:
		d.head(false, "stop;")
	case 2:
		d.marks++
		d.head(false, "mark m"+strconv.Itoa(d.marks)+";")
	case 3:
		d.head(false, d.pick(xy...)+" := any;")
	case 4, 5, 6:
		x := d.tree(d.below(4), xy)
		d.head(x.form(xy) == nil, d.pick(xy...)+":="+x.short()+";")
	case 7:
		d.head(false, "choose ")
		d.block(deep - 1)
		for range d.below(3) {
			d.head(false, "or")
			d.block(deep - 1)
		}
	case 8:
		d.head(false, "loop ")
		d.block(deep - 1)
	case 9:
		d.head(true, "while "+cond)
		d.block(deep - 1)
	case 10:
		d.head(true, "if "+cond)
		d.block(deep - 1)
		if d.below(2) == 0 {
			d.head(false, "else")
			d.block(deep - 1)
		}
	}
}

// program draws a program whose text is not too long.
func (s *stream) program() *drawing {
	for {
		d := &drawing{stream: s}
		d.head(false, d.pick("vars x, y;", "vars x = 3, y = -4;"))
		d.statements(4)
		if d.text.Len() <= api.MaxText {
			return d
		}
	}
}

func TestDrawnPrograms(t *testing.T) { // P9.4
	s := &stream{6}
	pure := 0
	for range 3000 {
		d := s.program()
		text := d.text.String()
		sameHard(t, text, d.hard)
		if len(d.hard) == 0 {
			pure++
		} else if _, at := guard.Pure(parsed(t, text)); at != placeOf(text, d.at[0]) {
			t.Fatalf("P9.4: Pure of %q: at %v, want it at %v", text, at, placeOf(text, d.at[0]))
		}
	}
	if pure < 300 || pure > 2700 {
		t.Errorf("too few of a kind were drawn: %d of 3000 are pure", pure)
	}
}
