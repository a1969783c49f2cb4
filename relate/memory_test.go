package relate_test

import (
	"fmt"
	"slices"
	"sync"
	"testing"

	"rafter/api"
	"rafter/graph"
	"rafter/lang"
	"rafter/relate"
	"rafter/solver"
)

// mixed is a program with long numbers everywhere, some of them the same, and edges of all kinds. At its points hulls of several dimensions are found.
const mixed = "vars a = 4294967297, b = 4294967297, c, d = 4294967298; a := b; skip; choose { c := any; } or { c := b * b; } or { skip; } mark m; b := 4294967297 * a + 4294967297; if c = 3 { c := a; } else { d := c; } loop { d := d + 4294967297; } stop; skip;"

// wipe writes over a list, and the room behind it.
func wipe[T any](l []T, with T) {
	for i := range l[:cap(l)] {
		l[:cap(l)][i] = with
	}
}

// wipeNumbers writes over numbers, and all that they are made of.
func wipeNumbers(l []api.Whole) {
	for _, x := range l {
		wipe(x.Mag, 77)
	}
	wipe(l, api.Whole{Neg: true, Mag: []uint32{5}})
}

// apart fails the test if two of these lists share memory, the room behind them included.
func apart(t *testing.T, what string, l [][]uint32) {
	t.Helper()
	for i, a := range l {
		wipe(a, uint32(i+1))
	}
	for i, a := range l {
		if slices.ContainsFunc(a[:cap(a)], func(x uint32) bool { return x != uint32(i+1) }) {
			t.Fatalf("R3: %s: two lists share memory", what)
		}
	}
}

func TestToldApart(t *testing.T) { // R3: what was told is written on, and the relation tells what it told
	g := graphed(t, mixed)
	r := related(t, g)
	edges, begins, want := fmt.Sprint(g.Edges()), fmt.Sprint(g.Begins()), told(r, g.Points())
	for p := range g.Points() {
		var all [][]uint32
		for _, l := range slices.Concat(r.Samples(p), r.Samples(p), r.Rows(p), r.Rows(p)) {
			for _, x := range l {
				all = append(all, x.Mag)
			}
		}
		apart(t, "Samples, Rows", all)
		for _, l := range [][][]api.Whole{r.Samples(p), r.Rows(p)} {
			for _, numbers := range l {
				wipeNumbers(numbers)
			}
			wipe(l, nil)
		}
	}
	wipe(r.Names(), "z")
	wipe(g.Vars(), "z")
	if got := told(r, g.Points()); got != want {
		t.Errorf("R3: %s; want %s", got, want)
	}
	if fmt.Sprint(g.Edges()) != edges || fmt.Sprint(g.Begins()) != begins {
		t.Error("R3: the graph has changed")
	}
}

func TestPairsApart(t *testing.T) { // R3: no two pairs of one answer share the list itself, nor do the two halves of one share a number
	r := relatedOf(t, "vars a = 4294967297, b; skip; skip;")
	for p := range 3 {
		l := r.Samples(p)
		wipe(l[0][0].Mag, 9)
		if say(l[0][1:]) != "0 4294967297 0" {
			t.Errorf("R3: %d: %s", p, sayRows(l))
		}
		wipe(l[0], api.Whole{Neg: true})
		if say(l[1]) != "4294967297 1 4294967297 1" {
			t.Errorf("R3: %d: %s", p, sayRows(l))
		}
		if got := sayRows(r.Samples(p)); got != "4294967297 0 4294967297 0; 4294967297 1 4294967297 1" {
			t.Errorf("R3: %d: %s", p, got)
		}
	}
}

func TestRowNotKept(t *testing.T) { // R3, R5: the row that is asked stays as it is
	g := graphed(t, loops)
	r := related(t, g)
	mag := append(make([]uint32, 0, 6), 2, 0, 0)
	copy(mag[:6][3:], []uint32{7, 8, 9})
	row := append(make([]api.Whole, 0, 7), api.Whole{Mag: mag}, api.Whole{Neg: true, Mag: []uint32{1, 0}}, api.Whole{Neg: true, Mag: []uint32{2}}, api.Whole{Mag: []uint32{1}}, api.Whole{Neg: true})
	row[:7][5] = api.Whole{Neg: true, Mag: []uint32{0, 0}}
	was, want := fmt.Sprint(row[:7], mag[:6]), told(r, g.Points())
	for range 2 {
		if !implied(t, r, 1, row) || !implied(t, r, 0, row) || implied(t, r, 3, row) {
			t.Error("R5: 2 -1 -2 1 | 0")
		}
	}
	if got := fmt.Sprint(row[:7], mag[:6]); got != was {
		t.Errorf("R3: the row is %s; was %s", got, was)
	}
	wipeNumbers(row)
	if got := told(r, g.Points()); got != want {
		t.Errorf("R3: %s; want %s", got, want)
	}
}

func TestAskedAgain(t *testing.T) { // R4, R7: whatever was asked and refused before
	g := graphed(t, mixed)
	r := related(t, g)
	want := told(r, g.Points())
	r.Implied(-1, nil)
	r.Implied(0, nil)
	r.Text(0, "z°")
	r.Text(99, "a = a°")
	r.Print(1 << 40)
	r.Samples(-1)
	if got := told(r, g.Points()); got != want {
		t.Errorf("R4: %s; want %s", got, want)
	}
}

func TestTwoRelations(t *testing.T) { // R4: of one graph, and of another one of the same text; and what the solver tells stays what it was
	g := graphed(t, mixed)
	alone, _ := solver.Solve(g)
	rows := sayRows(alone.Rows(5))
	one := related(t, g)
	want := told(one, g.Points())
	two := related(t, g)
	relatedOf(t, "vars a = 1, b = 2; loop { a := a + b; }")
	three := relatedOf(t, mixed)
	for i, r := range []*relate.Relation{one, two, three} {
		if got := told(r, g.Points()); got != want {
			t.Errorf("R4: %d: %s; want %s", i, got, want)
		}
	}
	if one == two {
		t.Error("R4: one object")
	}
	if got := sayRows(alone.Rows(5)); got != rows {
		t.Errorf("R4: the solver tells %s, and told %s", got, rows)
	}
}

func TestSideBySide(t *testing.T) { // R4: calls made at the same time have nothing in common
	g := graphed(t, mixed)
	shared := related(t, g)
	want := told(shared, g.Points())
	var group sync.WaitGroup
	for range 8 {
		group.Go(func() {
			for range 3 {
				if told(shared, g.Points()) != want {
					t.Error("R4: side by side a relation tells something else")
				}
				if r, e := relate.Solve(g); e != api.OK || told(r, g.Points()) != want {
					t.Error("R4: side by side something else is found")
				}
			}
		})
	}
	group.Wait()
}

func FuzzSolve(f *testing.F) { // P17.2, P17.3: run as a test, it goes through the seeds
	s := &stream{10}
	for n := range 100 {
		f.Add(s.program(n%5, 3, n%4, n%3 == 0, n%4 == 0))
	}
	f.Add(mixed)
	f.Fuzz(func(t *testing.T, text string) {
		p, e, _ := lang.Parse(text)
		if e != api.OK {
			return
		}
		g, e := graph.Of(p)
		if e != api.OK {
			return
		}
		if r := like(t, text, g); r != nil {
			told(r, g.Points())
		}
	})
}
