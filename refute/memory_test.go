package refute_test

import (
	"fmt"
	"slices"
	"strings"
	"sync"
	"testing"

	"rafter/affine"
	"rafter/api"
	"rafter/graph"
	"rafter/lang"
	"rafter/refute"
	"rafter/solver"
)

// mixed is a program with long numbers, some of them the same, and edges of all kinds.
const mixed = "vars a = 4294967297, b = 4294967297, c, d = 4294967298; a := b; skip; choose { c := any; } or { c := b * b; } or { skip; } mark m; b := 4294967297 * a + 4294967297; if c = 3 { c := a; } else { d := c; } loop { d := d + 4294967297; } stop; skip;"

// mixedRows are rows over its variables.
func mixedRows() [][]api.Whole {
	return [][]api.Whole{
		numbers("1 -1 0 0 0"), numbers("0 0 1 0 0"), numbers("0 0 1 0 1"), numbers("0 0 0 1 4294967298"),
		numbers("1 0 0 0 4294967297"), numbers("0 1 0 0 7"), numbers("0 0 1 -1 0"), numbers("0 0 0 0 0"), numbers("0 0 0 0 2"),
	}
}

// toldAll answers what Find and Breaks tell of these rows at all points, and at some that there are not.
func toldAll(r *solver.Result, rows [][]api.Whole) string {
	var out strings.Builder
	for p := -1; p <= r.Graph().Points(); p++ {
		for i, row := range rows {
			w, a := refute.Find(r, p, row)
			is, b := refute.Breaks(r, p, row, []int{1, 2, 0, 1}, 9)
			fmt.Fprintln(&out, p, i, sayWitness(w), a, is, b)
		}
	}
	return out.String()
}

// toldResult answers all samples, all edges and all variables as one text.
func toldResult(r *solver.Result) string {
	var out strings.Builder
	for p := range r.Graph().Points() {
		for _, x := range r.Samples(p) {
			fmt.Fprintln(&out, p, say(x.State), x.Point, x.Index, x.Edge, x.Value)
		}
	}
	return out.String() + fmt.Sprint(r.Graph().Edges(), r.Graph().Vars())
}

// wipe writes over a list, and the room behind it.
func wipe[T any](l []T, with T) {
	for i := range l[:cap(l)] {
		l[:cap(l)][i] = with
	}
}

func TestToldApart(t *testing.T) { // R3: what was told is written on, list by list; neither the other lists nor later answers tell of it
	r := solved(t, mixed)
	rows := mixedRows()
	want, was := toldAll(r, rows), toldResult(r)
	shown := 0
	for p := range r.Graph().Points() {
		for _, row := range rows {
			w, _ := refute.Find(r, p, row)
			for i := range w.State {
				others := say(slices.Delete(slices.Clone(w.State), i, i+1))
				wipe(w.State[i].Mag, 77)
				if got := say(slices.Delete(slices.Clone(w.State), i, i+1)); got != others {
					t.Fatalf("R3: at %d: %s: %s; was %s", p, say(row), got, others)
				}
			}
			wipe(w.State, api.Whole{Neg: true, Mag: []uint32{5}})
			wipe(w.Choices, -5)
			if w.Kind == api.FindShown {
				shown++
			}
		}
	}
	if got := toldAll(r, rows); got != want || shown < 20 {
		t.Errorf("R3: %s; want %s (%d were shown)", got, want, shown)
	}
	if toldResult(r) != was {
		t.Error("R3: the result or its graph has changed")
	}
}

// roomy answers numbers in lists with room behind them, in which something stands; limbs 0 stand on top.
func roomy(l []api.Whole) []api.Whole {
	out := make([]api.Whole, 0, len(l)+3)
	for _, x := range l {
		mag := append(make([]uint32, 0, len(x.Mag)+5), x.Mag...)
		wipe(mag[len(mag):], 99)
		out = append(out, api.Whole{Neg: x.Neg, Mag: append(mag, 0, 0)})
	}
	wipe(out[len(out):], api.Whole{Neg: true, Mag: []uint32{98}})
	return out
}

// inFull answers all that lists are made of, the room behind them included.
func inFull(row []api.Whole, choices []int) string {
	var out strings.Builder
	for _, x := range row[:cap(row)] {
		fmt.Fprintln(&out, x.Neg, len(x.Mag), x.Mag[:cap(x.Mag)])
	}
	return out.String() + fmt.Sprint(choices[:cap(choices)])
}

func TestHandedIn(t *testing.T) { // R3: what is handed in stays as it is, and is not kept
	r := solved(t, mixed)
	for p := range r.Graph().Points() {
		for _, plain := range mixedRows() {
			row := roomy(plain)
			choices := append(make([]int, 0, 12), 1, 2, 0, 1)
			wipe(choices[4:], 97)
			was := inFull(row, choices)
			w, a := refute.Find(r, p, row)
			is, b := refute.Breaks(r, p, row, choices, 9)
			if got := inFull(row, choices); got != was {
				t.Fatalf("R3: at %d: %s; was %s", p, got, was)
			}
			told := sayWitness(w)
			for _, x := range row {
				wipe(x.Mag, 3)
			}
			wipe(row, api.Whole{})
			wipe(choices, 0)
			v, c := refute.Find(r, p, plain)
			still, d := refute.Breaks(r, p, plain, []int{1, 2, 0, 1}, 9)
			if sayWitness(w) != told || sayWitness(v) != told || is != still || a != c || b != d {
				t.Fatalf("R3: at %d: %s: %s, was %s; now %s", p, say(plain), sayWitness(w), told, sayWitness(v))
			}
		}
	}
}

func TestAskedAgain(t *testing.T) { // R4, R7: whatever was asked and refused before
	r := solved(t, mixed)
	rows := mixedRows()
	want := toldAll(r, rows)
	for _, point := range []int{-1, 0, 3, 99} {
		refute.Find(r, point, numbers("1 2"))
		refute.Find(nil, point, nil)
		refute.Text(r, point, "a = ")
		refute.Text(nil, point, "a = b")
		refute.Breaks(r, point, nil, []int{3}, 99)
		refute.Breaks(nil, point, rows[0], nil, 1)
	}
	if got := toldAll(r, rows); got != want {
		t.Errorf("R4: %s; want %s", got, want)
	}
	if got := toldAll(solved(t, mixed), rows); got != want {
		t.Errorf("R4: of another result of the same text: %s; want %s", got, want)
	}
}

func TestSideBySide(t *testing.T) { // R4: calls made at the same time have nothing in common
	r := solved(t, mixed)
	rows := mixedRows()
	want := toldAll(r, rows)
	var group sync.WaitGroup
	for range 8 {
		group.Go(func() {
			if toldAll(r, rows) != want {
				t.Error("R4: side by side something else is told")
			}
		})
	}
	group.Wait()
}

func FuzzText(f *testing.F) { // P14.1 to P14.6: run as a test, it goes through the seeds
	s := &stream{10}
	for n := range 60 {
		f.Add(s.program(n%5, 3, n%4, n%3 == 0, n%4 == 0), s.below(12)-1, s.pick("a = 0", "a = 2b + 1", "a - b = 3c", "0 = 1", "a = ", "d = 5"), s.below(25))
	}
	f.Add(mixed, 3, "a = b", 9)
	f.Fuzz(func(t *testing.T, text string, point int, equation string, fuel int) {
		p, e, _ := lang.Parse(text)
		if e != api.OK {
			return
		}
		g, e := graph.Of(p)
		if e != api.OK {
			return
		}
		r, e := solver.Solve(g)
		if e != api.OK {
			return
		}
		if point < 0 || point >= g.Points() {
			refusedText(t, text, r, point, equation, api.ErrPoint, api.Place{})
			return
		}
		row, e, at := affine.Equation(equation, g.Vars())
		if e != api.OK {
			refusedText(t, text, r, point, equation, e, at)
			return
		}
		w, e, at := refute.Text(r, point, equation)
		if want, _ := model(r, point, row); e != api.OK || at != (api.Place{}) || sayWitness(w) != sayWitness(want) {
			t.Fatalf("P14.2: %q at %d: %s: %s, %v; want %s", text, point, equation, sayWitness(w), e, sayWitness(want))
		}
		switch w.Kind {
		case api.FindShown:
			shows(t, text, r, point, row, w)
		case api.FindHolds:
			if got, e := refute.Breaks(r, point, row, (&stream{uint64(fuel)}).drawChoices(), fuel); e != api.OK || got {
				t.Fatalf("P14.6: %q at %d: %s: %v, %v", text, point, equation, got, e)
			}
		case api.FindLost:
			if g.Pure() {
				t.Fatalf("P14.5: %q at %d: %s: lost", text, point, equation)
			}
		}
	})
}
