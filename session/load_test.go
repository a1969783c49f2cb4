package session_test

import (
	"math"
	"strings"
	"testing"

	"rafter/api"
	"rafter/session"
)

// loops is a program of the document.
const loops = "vars x = 0, y = 1; loop { x := x + 1; y := y + 2; } mark out; if x = 3 { mark in; skip; }"

// nowhere are numbers that are no point's, of a program with so many.
func nowhere(points int) []int {
	return []int{-1, points, points + 1, math.MinInt, math.MaxInt, -points - 1, 1 << 32, 1 << 40}
}

// holdsNothing fails the test if a call tells anything, or another error than ErrNone.
func holdsNothing(t *testing.T, s asker) {
	t.Helper()
	points, edges, a := s.Size()
	program, b := s.Program()
	pruned, c := s.Pruned()
	certificate, d := s.Certificate()
	if points != 0 || edges != 0 || program+pruned+certificate != "" || a != api.ErrNone || b != a || c != a || d != a {
		t.Error("P19.2: nothing is held: ", points, edges, program, pruned, certificate, a, b, c, d)
	}
	for _, text := range []string{"", "x", "m", "x = x", "0 = 0", "point\n", "\xff", strings.Repeat(" ", api.MaxScript+1)} {
		p, e := s.Point(text)
		if p != 0 || e != api.ErrNone {
			t.Errorf("P19.2: nothing is held: Point(%.9q): %d, %v", text, p, e)
		}
		if e, line := s.Vouch(text); e != api.ErrNone || line != 0 {
			t.Errorf("P19.2: nothing is held: Vouch(%.9q): %v, %d", text, e, line)
		}
		for _, point := range nowhere(1)[:4] {
			noneOf(t, api.ErrNone, s, point, text, 0)
			noneOf(t, api.ErrNone, s, 0, text, point)
		}
	}
	for _, fuel := range []int{-1, 0, 9} {
		noStand(t, s, nil, fuel)
		noStand(t, s, []int{1, 2}, fuel)
	}
}

// noStand fails the test if Run tells anything, or another error than ErrNone.
func noStand(t *testing.T, s asker, choices []int, fuel int) {
	t.Helper()
	x, e := s.Run(choices, fuel)
	if e != api.ErrNone || x.Point != 0 || len(x.State) != 0 || x.Steps+x.Used+x.Why != 0 || x.Code != api.OK {
		t.Errorf("P19.2: nothing is held: Run(%v, %d): %v, %v", choices, fuel, x, e)
	}
}

// noneOf fails the test if a call that is handed a point answers another error, tells anything beside it, or a place. `at` goes to Before alone.
func noneOf(t *testing.T, want api.Errno, s asker, point int, equation string, at int) {
	t.Helper()
	needs, e, place := s.Before(point, equation, at)
	if needs != "" || e != want || place != (api.Place{}) {
		t.Errorf("P19.2: Before(%d, %.20q, %d): %q, %v, %v; want %v", point, equation, at, needs, e, place, want)
	}
	if want == api.ErrPoint && point >= 0 && point < sizeOf(t, s) {
		return
	}
	text, a := s.Equations(point)
	more, b := s.Relations(point)
	if text+more != "" || a != want || b != want {
		t.Errorf("P19.2: at %d: %q, %q, %v, %v; want %v", point, text, more, a, b, want)
	}
	for name, call := range map[string]func() (bool, api.Errno, api.Place){
		"Implied":               func() (bool, api.Errno, api.Place) { return s.Implied(point, equation) },
		"Related":               func() (bool, api.Errno, api.Place) { return s.Related(point, equation) },
		"Given":                 func() (bool, api.Errno, api.Place) { return s.Given(point, nil, equation) },
		"Given one":             func() (bool, api.Errno, api.Place) { return s.Given(point, []string{equation}, "0 = 0") },
		"Given more than it is": func() (bool, api.Errno, api.Place) { return s.Given(point, make([]string, 99), equation) },
	} {
		if is, e, place := call(); is || e != want || place != (api.Place{}) {
			t.Errorf("P19.2: %s(%d, %.20q): %v, %v, %v; want %v", name, point, equation, is, e, place, want)
		}
	}
	w, e, place := s.Refute(point, equation)
	if w.Kind != 0 || w.Fuel != 0 || len(w.Choices)+len(w.State) != 0 || e != want || place != (api.Place{}) {
		t.Errorf("P19.2: Refute(%d, %.20q): %v, %v, %v; want %v", point, equation, w, e, place, want)
	}
}

func TestNew(t *testing.T) { // P19.1, P19.2
	holdsNothing(t, session.New())
	if session.New() == session.New() {
		t.Error("R4: one object")
	}
}

// refused is a text that Load refuses, with what it answers.
type refused struct {
	text string
	e    api.Errno
	at   api.Place
}

// refusals are texts that Load refuses: of each layer that it asks, and of each error.
func refusals() []refused {
	place := func(at int) api.Place { return api.Place{Byte: at, Glyph: at, Line: 1, Column: at + 1} }
	var none api.Place
	return []refused{
		{"", api.ErrSyntax, place(0)}, {"vars", api.ErrSyntax, place(4)}, {"vars x; x := ;", api.ErrSyntax, place(13)}, {"vars x; x := 1", api.ErrSyntax, place(14)},
		{"vars x, x;", api.ErrTwice, place(8)}, {"vars x; mark m; mark m;", api.ErrTwice, place(21)}, {"vars x; y := 1;", api.ErrUnknown, place(8)}, {"vars x°;", api.ErrName, place(5)}, {"vars a,b,c,d,e,f,g,h,i;", api.ErrTooBig, place(21)},
		{"vars x; x := " + strings.Repeat("(", 17) + "x", api.ErrDeep, place(29)}, {"vars x; x : 1;", api.ErrSign, place(10)}, {"vars \xff;", api.ErrRune, place(5)},
		{"vars;\nskip\n;;", api.ErrSyntax, api.Place{Byte: 12, Glyph: 12, Line: 3, Column: 2}}, {"vars α; α ≔ β;", api.ErrUnknown, api.Place{Byte: 16, Glyph: 12, Line: 1, Column: 13}},
		{"vars x = P;", api.ErrTooBig, place(9)},
		{"vars;" + strings.Repeat("skip;", 64), api.ErrTooBig, none}, {"vars x; x := 2 * M * x;", api.ErrTooBig, none}, // the graph
		{"vars x = M; x := 2 * x;", api.ErrTooBig, none}, {"vars x = 0, y = 0; choose { x := M; } or { y := N; }", api.ErrTooBig, none}, // what the solver finds
	}
}

func TestLoadRefused(t *testing.T) { // P19.1, R2, R7: what it held is left, also what is found late, ahead of that or behind it
	ahead, behind := loaded(t, loops), loaded(t, loops)
	want := told(ahead, &stream{1}, 9) // and with that the relations are made
	empty := session.New()
	for _, x := range refusals() {
		for _, s := range []*session.Session{session.New(), empty, ahead, behind} {
			if e, at := s.Load(spelt(x.text)); e != x.e || at != x.at {
				t.Errorf("P19.1: Load(%.40q): %v at %v; want %v at %v", x.text, e, at, x.e, x.at)
			}
		}
		holdsNothing(t, empty)
		if got := told(ahead, &stream{1}, 9); got != want {
			t.Errorf("P19.1: %.40q: %s; want %s", x.text, got, want)
		}
	}
	if got := told(behind, &stream{1}, 9); got != want {
		t.Errorf("P19.1: %s; want %s", got, want)
	}
	over := "vars;" + strings.Repeat(" ", api.MaxText-4)
	if e, _ := ahead.Load(over); e != api.ErrTooBig {
		t.Error("P19.1: a text that is too long: ", e)
	}
	if e, at := ahead.Load(over[:api.MaxText]); e != api.OK || at != (api.Place{}) {
		t.Error("P19.1: a text at the limit: ", e, at)
	}
	if p, edges, e := ahead.Size(); p != 1 || edges != 0 || e != api.OK {
		t.Error("P19.1: from now on it holds this program: ", p, edges, e)
	}
}

func TestLoadedLast(t *testing.T) { // P19.1, P19.6, R4: one session that loads one program after the other tells of each what a new one does
	s := &stream{3}
	all := session.New()
	refused, taken := 0, 0
	for n := range 120 {
		text := s.program(s.below(4)+s.below(3), 2+n%3, n%3, n%2 == 0, n%3 == 0)
		if n%4 == 3 {
			text = text[:s.below(len(text))]
		}
		one := session.New()
		e, at := all.Load(text)
		if want, place := one.Load(text); e != want || at != place {
			t.Fatalf("P19.1: %q: %v at %v; want %v at %v", text, e, at, want, place)
		}
		if e != api.OK {
			refused++
			continue
		}
		taken++
		seed := uint64(n)
		if n%5 > 0 { // else no relations are asked for ahead of the next one
			if got, want := told(all, &stream{seed}, 2), told(one, &stream{seed}, 2); got != want {
				t.Fatalf("P19.6: %q: %s; want %s", text, got, want)
			}
		}
	}
	if refused < 10 || taken < 60 {
		t.Error("too few of a kind were drawn: ", refused, taken)
	}
}
