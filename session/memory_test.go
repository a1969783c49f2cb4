package session_test

import (
	"fmt"
	"slices"
	"testing"

	"rafter/api"
	"rafter/session"
)

// mixed is a program with long numbers, some of them the same, and edges of all kinds.
const mixed = "vars a = 4294967297, b = 4294967297, c, d = 4294967298; a := b; skip; choose { c := any; } or { c := b * b; } or { skip; } mark m; b := 4294967297 * a + 4294967297; if c = 3 { c := a; } else { d := c; } loop { d := d + 4294967297; } mark n; stop; skip;"

// wipe writes over a list, and the room behind it.
func wipe[T any](l []T, with T) {
	for i := range l[:cap(l)] {
		l[:cap(l)][i] = with
	}
}

// wipeNumbers writes over numbers one by one, and fails the test if with one of them another one changes.
func wipeNumbers(t *testing.T, l []api.Whole) {
	t.Helper()
	for i := range l {
		others := slices.Delete(slices.Clone(l), i, i+1)
		was := say(others)
		wipe(l[i].Mag, 77)
		if got := say(others); got != was {
			t.Fatalf("R3: two lists share memory: %s; was %s", got, was)
		}
	}
	wipe(l, api.Whole{Neg: true, Mag: []uint32{5}})
}

func TestToldApart(t *testing.T) { // R3: what was told is written on, and the session tells what it told
	s := loaded(t, mixed)
	want := told(s, &stream{2}, 20)
	shown := 0
	for p := range sizeOf(t, s) {
		for _, equation := range []string{"a = b", "c = 0", "c = 1", "d = 4294967298", "a = 3", "b = 7", "c = d"} {
			w, _, _ := s.Refute(p, equation)
			if w.Kind == api.FindShown {
				shown++
			}
			wipeNumbers(t, w.State)
			wipe(w.Choices, -7)
		}
		u := run(t, s, []int{p, 1, 2, p, 1, 0, 1}, 3*p)
		wipeNumbers(t, u.State)
	}
	if got := told(s, &stream{2}, 20); got != want || shown < 20 {
		t.Errorf("R3: %s; want %s (%d were shown)", got, want, shown)
	}
}

func TestHandedIn(t *testing.T) { // R3: what is handed in stays as it is, the room behind it included, and is not kept
	s := loaded(t, mixed)
	want := told(s, &stream{2}, 9)
	for p := range sizeOf(t, s) {
		for _, equation := range []string{"a = b", "c = d", "a = ", "d = 4294967298"} {
			given := append(make([]string, 0, 9), "a = b", "c = 3", equation)
			wipe(given[3:], "d = 9")
			choices := append(make([]int, 0, 12), 1, 2, 0, 1)
			wipe(choices[4:], 97)
			was := fmt.Sprint(given[:9], choices[:12])
			is, e, at := s.Given(p, given, equation)
			u, _ := s.Run(choices, 9)
			if got := fmt.Sprint(given[:9], choices[:12]); got != was {
				t.Fatalf("R3: %s; was %s", got, was)
			}
			text := fmt.Sprint(u)
			wipe(given, "z")
			wipe(choices, 0)
			again, e2, at2 := s.Given(p, []string{"a = b", "c = 3", equation}, equation)
			v, _ := s.Run([]int{1, 2, 0, 1}, 9)
			if fmt.Sprint(u) != text || fmt.Sprint(v) != text || is != again || e != e2 || at != at2 {
				t.Fatalf("R3: at %d: %s: %v, %v; was %s", p, equation, u, v, text)
			}
		}
	}
	if got := told(s, &stream{2}, 9); got != want {
		t.Errorf("R3: %s; want %s", got, want)
	}
}

func TestNoneIsEmpty(t *testing.T) { // R3: nil and an empty list mean the same
	s := loaded(t, mixed)
	for p := range sizeOf(t, s) {
		for _, equation := range []string{"a = b", "c = 0", "b ="} {
			a, b, c := s.Given(p, nil, equation)
			d, e, f := s.Given(p, []string{}, equation)
			if a != d || b != e || c != f {
				t.Errorf("R3: at %d: %s: %v, %v; %v, %v", p, equation, a, b, d, e)
			}
		}
		if u, v := run(t, s, nil, p), run(t, s, []int{}, p); fmt.Sprint(u) != fmt.Sprint(v) {
			t.Errorf("R3: %v; %v", u, v)
		}
	}
}

func TestAskedAgain(t *testing.T) { // R4, R7, P19.6: whatever was asked and refused before, in any order
	s := loaded(t, mixed)
	want := told(s, &stream{2}, 9)
	for _, p := range []int{-1, 0, 3, 99} {
		noneOf(t, api.ErrPoint, s, 99, "a =", p)
		s.Point("x")
		s.Implied(p, "a = ")
		s.Given(p, make([]string, 99), "a = b")
		s.Refute(p, "z = 1")
		s.Run([]int{1, 2, 3}, 1<<40)
		s.Before(p, "a = b", 4)
		s.Related(p, "a = z°")
		s.Vouch("point\n")
		s.Load("vars a")
	}
	if got := told(s, &stream{2}, 9); got != want {
		t.Errorf("R4: %s; want %s", got, want)
	}
	late := loaded(t, mixed) // of this one other things are asked first
	late.Related(3, "a = a°")
	late.Given(5, []string{"a = b"}, "c = d")
	late.Pruned()
	if got := told(late, &stream{2}, 9); got != want {
		t.Errorf("P19.6: %s; want %s", got, want)
	}
}

func TestTwoSessions(t *testing.T) { // R4: two sessions have nothing in common
	one, two := loaded(t, mixed), loaded(t, mixed)
	want := told(one, &stream{2}, 9)
	if e, _ := two.Load(loops); e != api.OK {
		t.Fatal(e)
	}
	other := told(two, &stream{2}, 9)
	if got := told(one, &stream{2}, 9); got != want || other == want {
		t.Errorf("R4: %s; want %s", got, want)
	}
	one.Load("vars;")
	if got := told(two, &stream{2}, 9); got != other {
		t.Errorf("R4: %s; want %s", got, other)
	}
	if p, edges, e := session.New().Size(); p+edges != 0 || e != api.ErrNone {
		t.Error("R4: a new one holds nothing: ", p, edges, e)
	}
}

func FuzzSession(f *testing.F) { // P19.1, P19.2, P19.6: run as a test, it goes through the seeds
	s := &stream{10}
	for n := range 60 {
		f.Add(s.program(n%5, 3, n%4, n%3 == 0, n%4 == 0), "a = b + 1", "c = 2", s.below(12)-1, uint64(n))
	}
	f.Add(mixed, "a = b", "c = 3", 9, uint64(1))
	f.Add(spelt(unrelated), "x = x°", "x = ", 1, uint64(2))
	f.Fuzz(func(t *testing.T, text, equation, given string, point int, seed uint64) {
		held, m := session.New(), &model{}
		e, at := held.Load(text)
		if want, place := m.load(text); e != want || at != place {
			t.Fatalf("P19.1: %q: %v at %v; want %v at %v", text, e, at, want, place)
		}
		like(t, text, held, m, seed, 1)
		a, b, c := held.Given(point, []string{given}, equation)
		if x, y, z := m.Given(point, []string{given}, equation); a != x || b != y || c != z {
			t.Fatalf("P19.2: %q at %d: given %q: %q: %v, %v, %v; want %v, %v, %v", text, point, given, equation, a, b, c, x, y, z)
		}
	})
}
