package session_test

import (
	"fmt"
	"strings"
	"testing"

	"rafter/api"
	"rafter/session"
)

func TestLikeTheModel(t *testing.T) { // P19.1, P19.2
	s := &stream{1}
	var all strings.Builder
	drawn(t, s, 500, func(text string, held *session.Session, m *model) {
		all.WriteString(like(t, text, held, m, uint64(s.next()), 2))
	})
	for what, few := range map[string]int{"true error 0": 1000, "false error 0": 1000, "false error 50": 200, "error 100": 100, "\n{1 0 [] []}": 300, "\n{2 ": 300, "\n{3 0 [] []}": 20, "0 = 1\n": 100, "error 150": 100, "error 153": 20, "error 2 ": 1} {
		if got := strings.Count(all.String(), what); got < few {
			t.Errorf("too few of a kind were drawn: %q: %d", what, got)
		}
	}
}

func TestNothingHeldLikeTheModel(t *testing.T) { // P19.2
	if got, want := told(session.New(), &stream{1}, 3), told(&model{}, &stream{1}, 3); got != want {
		t.Errorf("P19.2: %s; want %s", got, want)
	}
}

func TestNoPoint(t *testing.T) { // P19.2, R1, R2: ErrPoint comes ahead of all that is refused of equations, and nothing stands beside it
	for _, text := range []string{"vars;", loops, "vars x; x := H * x; x := x + x - H;"} {
		s := loaded(t, text)
		for _, p := range nowhere(sizeOf(t, s)) {
			for _, equation := range []string{"", "0 = 0", "x = x", "w = 1", "@", "\xff", strings.Repeat(" ", api.MaxText+1)} {
				noneOf(t, api.ErrPoint, s, p, equation, 0)
				noneOf(t, api.ErrPoint, s, 0, equation, p)
				noneOf(t, api.ErrPoint, s, p, equation, p)
			}
		}
	}
}

// badEquations are texts that are no equations over x and y, with what is answered.
func badEquations() []refused {
	place := func(at int) api.Place { return api.Place{Byte: at, Glyph: at, Line: 1, Column: at + 1} }
	return []refused{
		{"", api.ErrBadEquation, place(0)}, {"y", api.ErrBadEquation, place(1)}, {"x = ", api.ErrBadEquation, place(4)}, {"x = z", api.ErrBadEquation, place(4)}, {"x == y", api.ErrBadEquation, place(3)}, {"x = 1/0", api.ErrBadEquation, place(6)}, {"x = x°", api.ErrBadEquation, place(4)},
		{"x = \xff", api.ErrBadEquation, place(4)}, {"x = 1;", api.ErrBadEquation, place(5)}, {"x =\n2 y z", api.ErrBadEquation, api.Place{Byte: 8, Glyph: 8, Line: 2, Column: 5}}, {"x ≔ 1", api.ErrBadEquation, place(2)},
		{"x = P", api.ErrTooBig, place(4)}, {"M x = 1/2", api.ErrTooBig, api.Place{}}, {strings.Repeat(" ", api.MaxText+1), api.ErrTooBig, api.Place{}},
	}
}

func TestBadEquation(t *testing.T) { // P19.2, R2: what affine.Equation refuses, with its place, and nothing beside it, at a point with samples and at one without
	s := loaded(t, "vars x = 1, y; skip; mark m; stop;")
	for _, x := range badEquations() {
		bad := spelt(x.text)
		for p := range 3 {
			for name, call := range map[string]func() (bool, api.Errno, api.Place){
				"Implied":    func() (bool, api.Errno, api.Place) { return s.Implied(p, bad) },
				"Given":      func() (bool, api.Errno, api.Place) { return s.Given(p, nil, bad) },
				"Given two":  func() (bool, api.Errno, api.Place) { return s.Given(p, []string{"x = 1", "1 = 2"}, bad) },
				"Given this": func() (bool, api.Errno, api.Place) { return s.Given(p, []string{"x = 1", bad, "y = q = 1"}, "=") },
			} {
				if is, e, at := call(); is || e != x.e || at != x.at {
					t.Errorf("P19.2: %s(%d, %.20q): %v, %v, %v; want %v, %v", name, p, bad, is, e, at, x.e, x.at)
				}
			}
			if w, e, at := s.Refute(p, bad); w.Kind != 0 || len(w.Choices)+len(w.State)+w.Fuel != 0 || e != x.e || at != x.at {
				t.Errorf("P19.2: Refute(%d, %.20q): %v, %v, %v; want %v, %v", p, bad, w, e, at, x.e, x.at)
			}
			if text, e, at := s.Before(p, bad, 2-p); text != "" || e != x.e || at != x.at {
				t.Errorf("P19.2: Before(%d, %.20q): %q, %v, %v; want %v, %v", p, bad, text, e, at, x.e, x.at)
			}
			if bad == "x = x°" {
				continue // this one is an equation with the beginning
			}
			if is, e, at := s.Related(p, bad); is || e != x.e || at != x.at {
				t.Errorf("P19.2: Related(%d, %.20q): %v, %v, %v; want %v, %v", p, bad, is, e, at, x.e, x.at)
			}
		}
	}
}

func TestSizeAndPoint(t *testing.T) { // P19.2
	for _, x := range []struct {
		text          string
		points, edges int
		marks         string
	}{
		{"vars;", 1, 0, ""}, {"vars x = 3, y; mark a; mark b; skip; mark c;", 2, 1, "a 0 b 0 c 1"}, {loops, 10, 11, "out 5 in 6"}, {"vars; stop; mark gone;", 2, 0, "gone 1"},
		{"vars x; loop { x := 2 * x; mark α₁; }", 5, 5, "α₁ 3"}, {"vars;" + strings.Repeat("skip;", 63) + "mark last;", 64, 63, "last 63"},
	} {
		s := loaded(t, x.text)
		if p, edges, e := s.Size(); p != x.points || edges != x.edges || e != api.OK {
			t.Errorf("P19.2: %.40s: %d, %d, %v", x.text, p, edges, e)
		}
		words := strings.Fields(x.marks)
		for i := 0; i < len(words); i += 2 {
			if p, e := s.Point(words[i]); fmt.Sprint(p) != words[i+1] || e != api.OK {
				t.Errorf("P19.2: %.40s: Point(%s): %d, %v", x.text, words[i], p, e)
			}
		}
		for _, name := range []string{"", "x", "vars", "mark", "@in", "In", "in ", "0", "\xff", "nowhere", strings.Repeat("n", 99)} {
			if p, e := s.Point(name); p != 0 || e != api.ErrName {
				t.Errorf("P19.2: %.40s: Point(%q): %d, %v", x.text, name, p, e)
			}
		}
	}
}

func TestProgramAndPruned(t *testing.T) { // P19.2
	for _, x := range []struct{ text, program, pruned string }{
		{"vars;", "vars;\n", "vars;\n"},
		{"vars x,y=-3; x:=2*(x+y)−1; loop{y:=any;}", "vars x, y = -3;\nx := 2 * (x + y) - 1;\nloop {\n  y := any;\n}\n", "vars x, y = -3;\nx := 2 * (x + y) - 1;\nloop {\n  y := any;\n}\n"},
		{"vars x = 2, y; y := x + 1; x := 2; skip; # so", "vars x = 2, y;\ny := x + 1;\nx := 2;\nskip;\n", "vars x = 2, y;\ny := 3;\n"},
		{"vars x = 1, y; y := x + 1; x := 1; skip; if x = 1 { y := y - 2 * x; } else { stop; } while y = 5 { y := 0; }", "vars x = 1, y;\ny := x + 1;\nx := 1;\nskip;\nif x = 1 {\n  y := y - 2 * x;\n} else {\n  stop;\n}\nwhile y = 5 {\n  y := 0;\n}\n", "vars x = 1, y;\ny := 2;\ny := 0;\n"},
		{"vars x = M; x := x - M;", "vars x = M;\nx := x - M;\n", "vars x = M;\nx := 0;\n"},
	} {
		s := loaded(t, x.text)
		for range 2 { // what is pruned is not what is held
			program, a := s.Program()
			pruned, b := s.Pruned()
			if program != spelt(x.program) || pruned != spelt(x.pruned) || a != api.OK || b != api.OK {
				t.Errorf("P19.2: %s: %q, %v; pruned %q, %v", x.text, program, a, pruned, b)
			}
		}
	}
}

func TestEquations(t *testing.T) { // P19.2
	for _, x := range []struct {
		text  string
		point int
		want  string
	}{
		{loops, 0, "x = 0\ny = 1\n"}, {loops, 5, "2*x - y = -1\n"}, {loops, 6, "2*x - y = -1\n"}, {loops, 9, "2*x - y = -1\n"}, {loops, 3, "2*x - y = 1\n"},
		{"vars;", 0, ""}, {"vars x;", 0, ""}, {"vars; stop;", 1, "0 = 1\n"}, {"vars x = 5, y = 2; if x = 1 { x := 7; } y := x * y;", 5, ""}, {"vars x = -M;", 0, "x = -M\n"}, {"vars α₁, β; β ≔ any; α₁ ≔ β;", 2, "α₁ - β = 0\n"},
	} {
		if got, e := loaded(t, x.text).Equations(x.point); got != spelt(x.want) || e != api.OK {
			t.Errorf("P19.2: %s at %d: %q, %v", x.text, x.point, got, e)
		}
	}
}

func TestImplied(t *testing.T) { // P19.2
	s := loaded(t, loops)
	for _, x := range []struct {
		point    int
		equation string
		want     bool
	}{
		{5, "y = 2x + 1", true}, {5, "−1/2 = x − 1/2·y # so", true}, {5, "y = 2x", false}, {5, "x = 0", false}, {5, "0 = 0", true}, {5, "0 = 1", false}, {0, "x = 0", true}, {0, "x = y", false}, {0, "M x + y = 1", true}, {6, "x = 3", false}, {6, "y = 2x + 1", true},
	} {
		if got := implied(t, s, x.point, spelt(x.equation)); got != x.want {
			t.Errorf("P19.2: Implied(%d, %s): %v", x.point, x.equation, got)
		}
	}
	if gone := loaded(t, "vars x = M; stop;"); !implied(t, gone, 1, "0 = 1") || !implied(t, gone, 1, "x = 7") || !implied(t, gone, 0, spelt("x = M")) || implied(t, gone, 0, spelt("x = N")) {
		t.Error("P19.2: at a point without a sample all is implied")
	}
}

func TestRefute(t *testing.T) { // P19.2
	const lost = "vars x = 5, y = 2; if x = 1 { x := 7; } y := x * y; mark out;"
	for _, x := range []struct {
		text     string
		point    int
		equation string
		want     string
	}{
		{loops, 5, "y = 2x + 1", "1 fuel 0 [] "}, {loops, 5, "x = 0", "2 fuel 6 [1 0] 1 3"}, {loops, 0, "x = 1", "2 fuel 0 [] 0 1"}, {loops, 0, "x = 0", "1 fuel 0 [] "}, {loops, 6, "x = 0", "3 fuel 0 [] "}, {lost, 5, "x = 5", "3 fuel 0 [] "}, {lost, 5, "y = 0", "2 fuel 3 [] 5 10"},
		{"vars x = M; stop;", 1, "0 = 1", "1 fuel 0 [] "}, {"vars x = M; skip;", 1, "x = 1", "2 fuel 1 [] M"}, {"vars;", 0, "0 = 1", "2 fuel 0 [] "},
	} {
		w, e, at := loaded(t, x.text).Refute(x.point, x.equation)
		if got := fmt.Sprint(w.Kind, " fuel ", w.Fuel, " ", w.Choices, " ", say(w.State)); got != spelt(x.want) || e != api.OK || at != (api.Place{}) {
			t.Errorf("P19.2: %s: Refute(%d, %s): %s, %v; want %s", x.text, x.point, x.equation, got, e, x.want)
		}
	}
}

func TestRun(t *testing.T) { // P19.2
	for _, x := range []struct {
		text    string
		choices []int
		fuel    int
		want    string
	}{
		{loops, []int{1, 0}, 99, "at 9: 1 3; steps 8, used 2, why 1, error 0"}, {loops, []int{1, 1, 0}, 9, "at 1: 2 5; steps 9, used 2, why 0, error 0"}, {loops, nil, 99, "at 1: 0 1; steps 1, used 0, why 2, error 0"}, {loops, []int{7}, 0, "at 0: 0 1; steps 0, used 0, why 0, error 0"}, {loops, []int{7}, -5, "at 0: 0 1; steps 0, used 0, why 0, error 0"},
		{"vars x, y; loop { x := x / y; }", []int{7, 0, 1, 1}, 9, "at 2: 7 0; steps 2, used 3, why 3, error 20"}, {"vars x; x := any;", []int{-3, -4}, 1, "at 1: -4; steps 1, used 2, why 1, error 0"}, {"vars;", nil, 5, "at 0: ; steps 0, used 0, why 1, error 0"},
	} {
		u := run(t, loaded(t, x.text), x.choices, x.fuel)
		if got := fmt.Sprintf("at %d: %s; steps %d, used %d, why %d, %v", u.Point, say(u.State), u.Steps, u.Used, u.Why, u.Code); got != x.want {
			t.Errorf("P19.2: %s: Run(%v, %d): %s; want %s", x.text, x.choices, x.fuel, got, x.want)
		}
	}
}

func TestBefore(t *testing.T) { // P19.2
	const plain = "vars x, y, z; z := x + y; loop { x := x + 1; y := y - 1; }"
	for _, x := range []struct {
		text     string
		point    int
		equation string
		at       int
		want     string
	}{
		{loops, 5, "x = 2", 0, "0 = 1\n"}, {loops, 5, "2x = y", 0, "2*x - y = 0\n"}, {loops, 5, "2x = y", 5, "2*x - y = 0\n"}, {loops, 5, "2x = y", 9, ""}, {loops, 5, "0 = 0", 0, ""}, {loops, 9, "x = 1/2", 9, "2*x = 1\n"}, {loops, 9, "x = 1/2", 6, "2*x = 1\n"},
		{plain, 6, "z = x + y", 0, ""}, {plain, 6, "z = 2x", 0, "0 = 1\n"}, {plain, 6, "z = 5", 2, "z = 5\n"}, {plain, 6, "z = 5", 0, "x + y = 5\n"}, {plain, 6, "x + y = 5; ", 0, "refused"},
		{"vars x, y; y := any;", 1, "x = y", 0, "0 = 1\n"}, {"vars x, y; y := any;", 1, "M x = 1", 0, "M*x = 1\n"}, {"vars x, y; y := 2 * x;", 1, "M y = 1", 0, "too big"}, {"vars x, y; y := 2 * x;", 1, "M y = 1", 1, "too big"}, {"vars x, y; y := 2 * x;", 0, "M y = 1", 1, ""}, {"vars α, β; α ≔ β;", 1, "α = 1", 0, "β = 1\n"},
	} {
		got, e, at := loaded(t, x.text).Before(x.point, spelt(x.equation), x.at)
		switch {
		case x.want == "too big" && (got != "" || e != api.ErrTooBig || at != (api.Place{})), x.want == "refused" && (got != "" || e != api.ErrBadEquation || at.Byte != 9):
			t.Errorf("P19.2: %s: Before(%d, %s, %d): %q, %v at %v", x.text, x.point, x.equation, x.at, got, e, at)
		case x.want != "too big" && x.want != "refused" && (got != spelt(x.want) || e != api.OK || at != (api.Place{})):
			t.Errorf("P19.2: %s: Before(%d, %s, %d): %q, %v at %v; want %q", x.text, x.point, x.equation, x.at, got, e, at, x.want)
		}
	}
}

func TestCertificateAndVouch(t *testing.T) { // P19.2
	s := loaded(t, "vars x = 3, y;")
	const text = "point\nrow 1 0 3\nsample -1 -1 -1 -1 3 0\nsample -1 -1 -1 1 3 1\n"
	if got, e := s.Certificate(); got != text || e != api.OK {
		t.Errorf("P19.2: %q, %v", got, e)
	}
	for _, x := range []struct {
		text string
		e    api.Errno
		at   int
	}{
		{text, api.OK, 0}, {"point\nrow 1 0 4\nsample -1 -1 -1 -1 3 0\n", api.ErrHull, 0}, {"point\nrow 01 0 3\n", api.ErrCert, 2}, {"", api.ErrCert, 0}, {text + "point\n", api.ErrCert, 0}, {text + "point", api.ErrCert, 5}, {"row 1 0 3\n", api.ErrCert, 1}, {"point\nrow 1 0\n", api.ErrCert, 0},
		{"point\nrow 1 0 3\nsample -1 -1 -1 -1 3 0\nsample -1 -1 -1 0 3 1\n", api.ErrLink, 0}, {"point\nrow 1 0 P\nsample -1 -1 -1 -1 3 0\n", api.ErrNumber, 0}, {"point\nrow 1 0 3\nrow 0 1 0\nsample -1 -1 -1 -1 3 0\n", api.ErrBegin, 0},
		{strings.Repeat("x", api.MaxScript+1), api.ErrTooBig, 0}, {strings.Repeat("x", api.MaxScript), api.ErrCert, 1}, {strings.Repeat("point\n", api.MaxScript/6), api.ErrCert, 0},
	} {
		if e, at := s.Vouch(spelt(x.text)); e != x.e || at != x.at {
			t.Errorf("P19.2: Vouch(%.60q): %v, %d; want %v, %d", x.text, e, at, x.e, x.at)
		}
	}
	two := loaded(t, "vars x = 3, y; skip; y := 3 * x;")
	got, e := two.Certificate()
	if want := text + "point\nrow 1 0 3\nsample 0 0 0 0 3 0\nsample 0 1 0 0 3 1\npoint\nrow 1 0 3\nrow 0 1 9\nsample 1 0 1 0 3 9\n"; got != want || e != api.OK {
		t.Errorf("P19.2: %q, %v", got, e)
	}
	if e, at := two.Vouch(strings.Replace(got, "row 1 0 3\nrow 0 1 9\nsample 1 0 1 0 3 9", "row 1 0 3\nrow 0 1 8\nsample 1 0 1 0 3 8", 1)); e != api.ErrLink || at != 2 {
		t.Error("P19.2: at another point: ", e, at)
	}
	if e, at := two.Vouch(text); e != api.ErrCert || at != 0 {
		t.Error("P19.2: of another program: ", e, at)
	}
}
