package road_test

import (
	"fmt"
	"sync"
	"testing"

	"rafter/api"
	"rafter/graph"
	"rafter/lang"
	"rafter/road"
	"rafter/solver"
)

// mixed is a program with long numbers, some of them the same, and edges of all kinds.
const mixed = "vars a = 4294967297, b = 4294967297, c, d = 4294967298; a := b; skip; choose { c := any; } or { c := b * b; } or { skip; } mark m; b := 4294967297 * a + 4294967297; if c = 3 { c := a; } else { d := c; } loop { d := d + 4294967297; } stop; skip;"

// wipe writes over a list, and the room behind it.
func wipe[T any](l []T, with T) {
	for i := range l[:cap(l)] {
		l[:cap(l)][i] = with
	}
}

// wipeNumbers writes over numbers, and all that they are made of.
func wipeNumbers(l []api.Whole) {
	for _, x := range l {
		wipe(x.Mag, 77)
	}
	wipe(l, api.Whole{Neg: true, Mag: []uint32{5}})
}

func TestToldApart(t *testing.T) { // R3: what was told is written on, list by list; neither the other lists nor later answers tell of it
	r := solved(t, mixed)
	want, samples, edges := toldAll(r), toldSamples(r), fmt.Sprint(r.Graph().Edges())
	eachSample(t, mixed, r, func(at spot, x api.Sample, w api.Road, choices []int, s api.Stand) {
		was := fmt.Sprint(ints(w.Indexes), ints(w.Edges))
		wipe(w.Points, -7)
		if got := fmt.Sprint(ints(w.Indexes), ints(w.Edges)); got != was {
			t.Fatalf("R3: %v: %s; was %s", at, got, was)
		}
		was = ints(w.Edges)
		wipe(w.Indexes, -8)
		if got := ints(w.Edges); got != was {
			t.Fatalf("R3: %v: %s; was %s", at, got, was)
		}
		wipe(w.Edges, -9)
		wipe(choices, -5)
		wipeNumbers(s.State)
	})
	if got := toldAll(r); got != want {
		t.Errorf("R3: %s; want %s", got, want)
	}
	if toldSamples(r) != samples || fmt.Sprint(r.Graph().Edges()) != edges {
		t.Error("R3: the result or its graph has changed")
	}
}

func TestAskedAgain(t *testing.T) { // R4, R7: whatever was asked and refused before
	r := solved(t, mixed)
	want := toldAll(r)
	for _, at := range []spot{{-1, 0}, {99, 0}, {0, -1}, {0, 99}, {1, 1}} {
		told(r, at.point, at.index)
		told(nil, at.point, at.index)
	}
	if got := toldAll(r); got != want {
		t.Errorf("R4: %s; want %s", got, want)
	}
	if got := toldAll(solved(t, mixed)); got != want {
		t.Errorf("R4: of another result of the same text: %s; want %s", got, want)
	}
}

func TestSideBySide(t *testing.T) { // R4: calls made at the same time have nothing in common
	r := solved(t, mixed)
	want := toldAll(r)
	var group sync.WaitGroup
	for range 8 {
		group.Go(func() {
			for range 3 {
				if toldAll(r) != want {
					t.Error("R4: side by side something else is told")
				}
			}
		})
	}
	group.Wait()
}

func FuzzRoads(f *testing.F) { // P13.1 to P13.7: run as a test, it goes through the seeds
	s := &stream{10}
	for n := range 100 {
		f.Add(s.program(n%5, 3, n%4, n%3 == 0, n%4 == 0), s.below(12)-1, s.below(6)-1)
	}
	f.Add(mixed, 3, 1)
	f.Fuzz(func(t *testing.T, text string, point, index int) {
		p, e, _ := lang.Parse(text)
		if e != api.OK {
			return
		}
		g, e := graph.Of(p)
		if e != api.OK {
			return
		}
		r, e := solver.Solve(g)
		if e != api.OK {
			return
		}
		if point < 0 || point >= g.Points() {
			refused(t, text, r, point, index, api.ErrPoint)
			return
		}
		if index < 0 || index >= len(r.Samples(point)) {
			refused(t, text, r, point, index, api.ErrArg)
			return
		}
		at := spot{point, index}
		likeModel(t, text, r, at, model(r)[at])
		w, _ := road.To(r, point, index)
		choices, _, _, _ := road.Choices(r, point, index)
		s, _ := road.Walk(r, point, index)
		if w.Sure {
			arrives(t, text, at, r.Samples(point)[index], w, choices, s)
		} else if g.Pure() {
			t.Fatalf("P13.7: %q %v", text, at)
		}
	})
}
