package graph_test

import (
	"fmt"
	"slices"
	"strings"
	"sync"
	"testing"

	"rafter/api"
	"rafter/graph"
	"rafter/guard"
	"rafter/lang"
)

// mixed is a program with long numbers everywhere, some of them the same.
const mixed = "vars x = 4294967297, y = -98765432109876543210, z; mark a; x := 4294967297*x + 4294967297*y + 4294967297; loop { x := x * y; mark b; choose { y := any; } or { while 4294967297 = z { y := 7 / 2; } stop; } } if x != y { } else { x := z / 4294967297; }"

// picture answers all that a graph tells, as a text.
func picture(g *graph.Graph) string {
	var out strings.Builder
	fmt.Fprint(&out, g.Vars(), g.Begins(), g.Points(), g.Exit(), g.Edges(), g.Marks(), g.Pure())
	for p := -1; p <= g.Points(); p++ {
		fmt.Fprint(&out, g.Out(p), g.In(p))
	}
	for _, name := range g.Marks() {
		p, ok := g.Mark(name)
		fmt.Fprint(&out, name, p, ok)
	}
	for i := range g.Edges() {
		x, y, e := g.Reckon(i, wides("98765432109876543210 -4294967297 12345678901234567890"))
		fmt.Fprint(&out, i, x, y, e)
	}
	return out.String()
}

// apart fails the test if two of these lists share memory, the room behind them included.
func apart(t *testing.T, what string, l [][]uint32) {
	t.Helper()
	for i, a := range l {
		full := a[:cap(a)]
		for j := range full {
			full[j] = uint32(i + 1)
		}
	}
	for i, a := range l {
		if slices.ContainsFunc(a[:cap(a)], func(x uint32) bool { return x != uint32(i+1) }) {
			t.Fatalf("R3: %s: two lists share memory", what)
		}
	}
}

// magnitudes answers those of numbers.
func magnitudes(l ...api.Whole) [][]uint32 {
	var out [][]uint32
	for _, x := range l {
		out = append(out, x.Mag)
	}
	return out
}

// wipe writes over a list, and the room behind it.
func wipe[T any](l []T, with T) {
	for i := range l[:cap(l)] {
		l[:cap(l)][i] = with
	}
}

func TestAnswersApart(t *testing.T) { // R3, R4: what a graph told is written on, and it tells the same
	p := parsed(t, mixed)
	g, _ := graph.Of(p)
	other := graphed(t, mixed)
	was, lines := picture(g), fmt.Sprint(p.Lines(), p.Begins(), p.Print())
	wipe(g.Vars(), "?")
	wipe(g.Marks(), "?")
	for point := range g.Points() {
		wipe(g.Out(point), 77)
		wipe(g.In(point), 77)
	}
	begins, edges, again := g.Begins(), g.Edges(), g.Edges()
	var all [][]uint32
	for _, b := range begins {
		all = append(all, b.Value.Mag)
	}
	for i := range edges {
		all = slices.Concat(all, magnitudes(edges[i].Row...), magnitudes(again[i].Row...))
	}
	apart(t, "Begins, Edges", all)
	for i := range edges {
		wipe(edges[i].Row, api.Whole{Neg: true, Mag: []uint32{uint32(i)}})
	}
	for i := range edges {
		for _, x := range edges[i].Row[:cap(edges[i].Row)] {
			if x.Mag[0] != uint32(i) {
				t.Fatalf("R3: the rows of two edges share memory")
			}
		}
	}
	wipe(edges, api.Edge{})
	wipe(begins, api.Begin{})
	if picture(g) != was || picture(other) != was {
		t.Error("R4: what a graph tells hangs on what became of its answers")
	}
	if fmt.Sprint(p.Lines(), p.Begins(), p.Print()) != lines {
		t.Error("R3: the program has changed")
	}
}

func TestReckonApart(t *testing.T) { // R3, R5: the state stays as it is, the room behind it too, and the answers share nothing with it
	g := graphed(t, "vars x, y; if x = x { } if x = 4294967297 { } x := x / 1; if -x = --y { } if 0 + x = x - 0 { } x := x * 1 * (x / x); while x * 1 != 18446744073709551617 { } y := x % y;")
	for i, e := range g.Edges() {
		if e.Kind != api.EdgeHard && e.Kind != api.EdgeTest {
			continue
		}
		mag := append(make([]uint32, 0, 6), 1, 2, 3, 0, 0)
		mag[:6][5] = 9
		state := append(make([]api.Whole, 0, 3), api.Whole{Mag: mag}, api.Whole{Neg: true, Mag: []uint32{5, 0}})
		state[:3][2] = api.Whole{Neg: true, Mag: []uint32{8}}
		x, y, err := g.Reckon(i, state)
		v, w, err2 := g.Reckon(i, []api.Whole{{Mag: []uint32{1, 2, 3}}, {Neg: true, Mag: []uint32{5}}})
		if err != api.OK || err2 != err || say(x, y) != say(v, w) || !oneForm(x) || !oneForm(y) {
			t.Fatalf("R5: Reckon(%d): %v, %v, %v; %v, %v, %v", i, x, y, err, v, w, err2)
		}
		apart(t, "Reckon", magnitudes(x, y, v, w))
		if fmt.Sprint(state[:3], mag[:6]) != "[{false [1 2 3 0 0]} {true [5 0]} {true [8]}] [1 2 3 0 0 9]" {
			t.Fatalf("R3: Reckon(%d): the state is %v", i, state[:3])
		}
	}
	was := picture(graphed(t, mixed))
	h := graphed(t, mixed)
	for i := range h.Edges() {
		x, y, _ := h.Reckon(i, wides("98765432109876543210 -4294967297 12345678901234567890"))
		wipe(x.Mag, 7)
		wipe(y.Mag, 7)
	}
	if picture(h) != was {
		t.Error("R4: what a graph tells hangs on what became of what it reckoned")
	}
}

func TestSideBySide(t *testing.T) { // R4: calls made at the same time have nothing in common
	p := parsed(t, mixed)
	g, _ := graph.Of(p)
	want := picture(g)
	var group sync.WaitGroup
	for range 8 {
		group.Go(func() {
			for range 20 {
				own, e := graph.Of(p)
				if e != api.OK || picture(g) != want || picture(own) != want {
					t.Error("R4: side by side a graph tells something else")
				}
			}
		})
	}
	group.Wait()
}

func FuzzOf(f *testing.F) { // P10.4, P10.5: run as a test, it goes through the seeds
	s := &stream{5}
	for n := range 300 {
		p := s.program(4, n%4)
		f.Add(s.lay(p, otherNames(p), n%2 == 0))
	}
	f.Fuzz(func(t *testing.T, text string) {
		p, e, _ := lang.Parse(text)
		if e != api.OK {
			return
		}
		g, e := graph.Of(p)
		if e != api.OK {
			if g != nil || e != api.ErrTooBig {
				t.Fatalf("P10.1: %q: %v", text, e)
			}
			return
		}
		stops := 0
		for _, l := range p.Lines() {
			if l.Kind == api.LineStop {
				stops++
			}
		}
		sameShape(t, text, g, stops)
		if pure, _ := guard.Pure(p); pure != g.Pure() {
			t.Fatalf("P10.5: %q: Pure %v", text, g.Pure())
		}
		again, e, _ := lang.Parse(p.Print())
		if e != api.OK { // as it is printed it is too long
			return
		}
		if h, e := graph.Of(again); e != api.OK || !slices.EqualFunc(bare(g.Edges()), bare(h.Edges()), equalEdge) {
			t.Fatalf("P10.6: %q, as it is printed, has another graph: %v", text, e)
		}
	})
}
