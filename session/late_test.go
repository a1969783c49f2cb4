package session_test

import (
	"sync"
	"testing"

	"rafter/api"
	"rafter/graph"
	"rafter/lang"
	"rafter/relate"
	"rafter/session"
)

// unrelated is a program of which the solver finds something, and of whose pairs the hull is too big.
const unrelated = "vars x; x := H * x; x := x + x - H;"

func TestRelations(t *testing.T) { // P19.2
	for _, x := range []struct {
		text  string
		point int
		want  string
	}{
		{loops, 5, "2*x - y = -1\nx° = 0\ny° = 1\n"}, {loops, 0, "x = 0\ny = 1\nx° = 0\ny° = 1\n"}, {"vars x, y; x := x + y; y := x - y; x := x - y;", 3, "x - y° = 0\ny - x° = 0\n"}, {"vars x, y; loop { x := x + 1; y := y + 2; }", 5, "2*x - y - 2*x° + y° = 0\n"},
		{"vars x = 4;", 0, "x = 4\nx° = 4\n"}, {"vars x; x := any;", 1, ""}, {"vars;", 0, ""}, {"vars x = 5; stop;", 1, "0 = 1\n"}, {"vars α₁; α₁ ≔ 2·α₁;", 1, "α₁ - 2*α₁° = 0\n"},
	} {
		s := loaded(t, x.text)
		for range 3 { // it is made once, and told each time
			if got, e := s.Relations(x.point); got != x.want || e != api.OK {
				t.Errorf("P19.2: %s at %d: %q, %v; want %q", x.text, x.point, got, e, x.want)
			}
		}
	}
}

func TestRelated(t *testing.T) { // P19.2
	s := loaded(t, "vars x, y = 2; loop { x := x + 3; } y := y - x;")
	for equation, want := range map[string]bool{"y = 2 - x": true, "y + x = y°": true, "2y° = 4": true, "0 = 0": true, "y = y° − x # so": true, "x = x°": false, "x° = 0": false, "y = 2": false, "0 = 1": false} {
		for range 2 {
			if is, e, at := s.Related(5, equation); is != want || e != api.OK || at != (api.Place{}) {
				t.Errorf("P19.2: %s: %v, %v, %v", equation, is, e, at)
			}
		}
	}
	place := api.Place{Byte: 6, Glyph: 5, Line: 1, Column: 6}
	if is, e, at := s.Related(0, "x° = z"); is || e != api.ErrBadEquation || at != place {
		t.Error("P19.2: ", is, e, at)
	}
	if is, e, at := s.Related(0, "x = x°"); !is || e != api.OK || at != (api.Place{}) {
		t.Error("P19.2: ", is, e, at)
	}
}

func TestRelationsRefused(t *testing.T) { // P19.2, R2, R7: relate.Solve's error, behind ErrPoint and ahead of the equation's, each time; all else is told
	s, other := loaded(t, unrelated), loaded(t, unrelated)
	want := ""
	for n := range 3 {
		for _, p := range []int{0, 1, 2} {
			if text, e := s.Relations(p); text != "" || e != api.ErrTooBig {
				t.Errorf("P19.2: at %d: %q, %v", p, text, e)
			}
			for _, equation := range []string{"x = x°", "0 = 0", "x = ", "", "z = 1"} {
				if is, e, at := s.Related(p, equation); is || e != api.ErrTooBig || at != (api.Place{}) {
					t.Errorf("P19.2: at %d: %s: %v, %v, %v", p, equation, is, e, at)
				}
			}
		}
		if text, e := s.Relations(3); text != "" || e != api.ErrPoint {
			t.Errorf("P19.2: no point: %q, %v", text, e)
		}
		got := told(s, &stream{9}, 6)
		if n == 0 {
			want = told(other, &stream{9}, 6)
		}
		if got != want {
			t.Errorf("R7: %s; want %s", got, want)
		}
	}
	if e, _ := s.Load(loops); e != api.OK {
		t.Fatal(e)
	}
	if text, e := s.Relations(0); text != "x = 0\ny = 1\nx° = 0\ny° = 1\n" || e != api.OK {
		t.Errorf("P19.6: of the program that is loaded behind it: %q, %v", text, e)
	}
	if e, _ := s.Load(spelt(unrelated)); e != api.OK {
		t.Fatal(e)
	}
	if text, e := s.Relations(0); text != "" || e != api.ErrTooBig {
		t.Errorf("P19.6: and of the first one again: %q, %v", text, e)
	}
}

func TestMadeOnce(t *testing.T) { // the relations are found when they are first asked for, and kept: neither to load a program nor to ask again is as much work
	const text = "vars a, b, c, d; loop { a := a + b; b := b + c; c := c + d; choose { d := any; } or { d := a; } or { a := 2 * d; b := a - c; } }"
	p, _, _ := lang.Parse(text)
	g, _ := graph.Of(p)
	found := testing.AllocsPerRun(3, func() { relate.Solve(g) })
	s := loaded(t, text)
	s.Relations(0)
	again := testing.AllocsPerRun(3, func() { s.Relations(1); s.Related(1, "a = a°") })
	if again*10 > found {
		t.Errorf("to ask again takes %v pieces of memory, to find them %v", again, found)
	}
	first := testing.AllocsPerRun(3, func() { s.Load(text); s.Relations(1) })
	load := testing.AllocsPerRun(3, func() { s.Load(text) })
	if first-load < found/2 {
		t.Errorf("to load takes %v pieces of memory, with the relations %v; to find them %v", load, first, found)
	}
}

func TestSideBySide(t *testing.T) { // R4: calls made at the same time; the relations are made by whoever comes first
	for _, text := range []string{loops, mixed, unrelated} {
		want := told(loaded(t, text), &stream{7}, 3)
		shared := loaded(t, text)
		var group sync.WaitGroup
		for range 8 {
			group.Go(func() {
				if told(shared, &stream{7}, 3) != want {
					t.Error("R4: side by side something else is told")
				}
				s := session.New()
				if e, _ := s.Load(spelt(text)); e != api.OK || told(s, &stream{7}, 3) != want {
					t.Error("R4: side by side another session tells something else")
				}
			})
		}
		group.Wait()
	}
}
