package back_test

import (
	"fmt"
	"slices"
	"sync"
	"testing"

	"rafter/api"
	"rafter/back"
	"rafter/graph"
	"rafter/lang"
	"rafter/span"
)

// mixed is a program with long numbers everywhere, some of them the same, and edges of all kinds; mixedRow is needed at its Exit, and at its points several rows are needed for it.
const (
	mixed    = "vars a = 4294967297, b = 4294967297, c, d = 4294967298; a := b; skip; choose { c := any; } or { c := b * b; } or { skip; } mark m; b := 4294967297 * a + 4294967297; if b = 3 { b := a; } else { d := 4294967299 * b; } loop { d := d + 4294967297 * a; } skip;"
	mixedRow = "4294967297 4294967298 0 0 4294967299"
)

// wipe writes over a list, and the room behind it.
func wipe[T any](l []T, with T) {
	for i := range l[:cap(l)] {
		l[:cap(l)][i] = with
	}
}

// wipeNumbers writes over numbers, and all that they are made of.
func wipeNumbers(l []api.Whole) {
	for _, x := range l {
		wipe(x.Mag, 77)
	}
	wipe(l, api.Whole{Neg: true, Mag: []uint32{5}})
}

// shared says whether two of these lists share memory, the room behind them included: each is written full of a mark of its own.
func shared[T any](all [][]T, mark func(i int) T, has func(x T) int) bool {
	for i, l := range all {
		wipe(l, mark(i))
	}
	for i, l := range all {
		if slices.ContainsFunc(l[:cap(l)], func(x T) bool { return has(x) != i }) {
			return true
		}
	}
	return false
}

func TestToldApart(t *testing.T) { // R3: what was told is written over, and the need tells what it told
	for _, x := range []struct{ text, row string }{{mixed, mixedRow}, {loop, "1 0 3"}, {loop, "2 -1 0"}, {mixed, "4294967297 0 4294967297 0 4294967297"}} {
		g := graphed(t, x.text)
		was := fmt.Sprint(g.Edges(), g.Begins(), g.Vars())
		n := found(t, g, g.Exit(), numbers(x.row))
		want := told(n, len(g.Vars()), g.Points())
		rows := 0
		for p := range g.Points() {
			rows += len(n.Rows(p))
			lists := slices.Concat(n.Rows(p), n.Rows(p))
			var mags [][]uint32
			for _, l := range lists {
				for _, y := range l {
					mags = append(mags, y.Mag)
				}
			}
			if shared(mags, func(i int) uint32 { return uint32(i) }, func(y uint32) int { return int(y) }) {
				t.Errorf("R3: %s at %d: two numbers share memory", x.text, p)
			}
			if shared(lists, func(i int) api.Whole { return api.Whole{Mag: make([]uint32, i)} }, func(y api.Whole) int { return len(y.Mag) }) {
				t.Errorf("R3: %s at %d: two rows share memory", x.text, p)
			}
			wipe(n.Rows(p), nil)
		}
		if got := told(n, len(g.Vars()), g.Points()); got != want {
			t.Errorf("R3: %s; want %s", got, want)
		}
		if fmt.Sprint(g.Edges(), g.Begins(), g.Vars()) != was {
			t.Error("R3: the graph has changed")
		}
		if rows < g.Points()-1 {
			t.Errorf("%s needs too few rows: %d", x.text, rows)
		}
	}
}

func TestSpansApart(t *testing.T) { // R3: each span that is answered lies in memory of its own
	g := graphed(t, mixed)
	n := found(t, g, g.Exit(), numbers(mixedRow))
	want := told(n, 4, g.Points())
	for p := range g.Points() {
		one, _ := n.Span(p)
		two, _ := n.Span(p)
		if one == two || !one.Same(two) {
			t.Errorf("R3: %d: one span, or not the same", p)
		}
		for _, row := range slices.Concat(one.Rows(), one.Steps()) {
			wipeNumbers(row)
		}
		*one = span.Span{}
		if sayRows(two.Rows()) != sayRows(n.Rows(p)) {
			t.Errorf("R3: %d: %s", p, sayRows(two.Rows()))
		}
	}
	if got := told(n, 4, g.Points()); got != want {
		t.Errorf("R3: %s; want %s", got, want)
	}
}

// roomy answers numbers in lists with room behind them, in which something stands; limbs 0 stand on top.
func roomy(l []api.Whole) []api.Whole {
	var out []api.Whole
	for _, x := range l {
		out = append(out, api.Whole{Neg: x.Neg || len(x.Mag) == 0, Mag: withRoom(append(slices.Clone(x.Mag), 0, 0), 99)})
	}
	return withRoom(out, api.Whole{Neg: true, Mag: []uint32{98}})
}

// withRoom answers a list with room behind it, in which the same thing stands everywhere.
func withRoom[T any](l []T, behind T) []T {
	out := append(make([]T, 0, len(l)+3), l...)
	wipe(out[len(out):], behind)
	return out
}

// inFull answers numbers and all that they are made of, the room behind the lists included.
func inFull(l []api.Whole) string {
	out := fmt.Sprint(len(l), l[:cap(l)])
	for _, x := range l {
		out += fmt.Sprint(len(x.Mag), x.Mag[:cap(x.Mag)])
	}
	return out
}

func TestHandedIn(t *testing.T) { // R3, R5: rows and states stay as they are, and are not kept
	s := &stream{10}
	held(t, s, 150, func(text string, point int, row []api.Whole, n *back.Need, m *model) {
		want := told(n, m.n, len(m.needs))
		lent := roomy(row)
		was := inFull(lent)
		again := found(t, m.g, point, lent)
		if got := told(again, m.n, len(m.needs)); got != want || inFull(lent) != was {
			t.Fatalf("R3, R5: %q, %s at %d: %s; want %s", text, say(row), point, got, want)
		}
		wipeNumbers(lent)
		if got := told(again, m.n, len(m.needs)); got != want {
			t.Fatalf("R3: %q: the row was kept", text)
		}
		for _, state := range s.states(n, point, m.n) {
			lent := roomy(state)
			was, is := inFull(lent), met(t, n, point, state)
			if met(t, n, point, lent) != is || inFull(lent) != was {
				t.Fatalf("R3, R5: %q: the state %s", text, say(state))
			}
			wipeNumbers(lent)
			if met(t, n, point, state) != is {
				t.Fatalf("R3: %q: the state was kept", text)
			}
		}
	})
}

func TestNilIsEmpty(t *testing.T) { // R3: nil and an empty list mean the same
	g := graphed(t, "vars; skip;")
	for _, row := range [][]api.Whole{{{}}, {{Mag: []uint32{}}}} {
		n := found(t, g, 1, row)
		if !met(t, n, 1, nil) || !met(t, n, 0, []api.Whole{}) || !n.Always() {
			t.Error("R3: no state")
		}
	}
	for _, row := range [][]api.Whole{nil, {}} {
		if n, e := back.Find(g, 1, row); n != nil || e != api.ErrArg {
			t.Errorf("P16.3: %v, %v", n, e)
		}
	}
}

func TestAskedAgain(t *testing.T) { // R4, R7: whatever was asked and refused before
	g := graphed(t, mixed)
	n := found(t, g, g.Exit(), numbers(mixedRow))
	want := told(n, 4, g.Points())
	back.Find(g, 99, nil)
	back.Find(g, 0, numbers("P 1 1 1 1"))
	n.Met(-1, nil)
	n.Met(0, nil)
	n.Span(1 << 40)
	n.Rows(-5)
	if got := told(n, 4, g.Points()); got != want {
		t.Errorf("R4: %s; want %s", got, want)
	}
}

func TestTwoNeeds(t *testing.T) { // R4: of one graph, and of another one of the same text
	g := graphed(t, mixed)
	one := found(t, g, g.Exit(), numbers(mixedRow))
	want := told(one, 4, g.Points())
	two := found(t, g, g.Exit(), numbers(mixedRow))
	found(t, g, g.Exit(), numbers("1 2 3 4 5"))
	found(t, g, 0, numbers("1 2 3 4 5"))
	three := found(t, graphed(t, mixed), g.Exit(), numbers(mixedRow))
	for i, n := range []*back.Need{one, two, three} {
		if got := told(n, 4, g.Points()); got != want {
			t.Errorf("R4: %d: %s; want %s", i, got, want)
		}
	}
	if one == two {
		t.Error("R4: one object")
	}
}

func TestSideBySide(t *testing.T) { // R4: calls made at the same time have nothing in common
	g := graphed(t, mixed)
	row := numbers(mixedRow)
	both := found(t, g, g.Exit(), row)
	want := told(both, 4, g.Points())
	var group sync.WaitGroup
	for range 8 {
		group.Go(func() {
			for range 5 {
				if told(both, 4, g.Points()) != want {
					t.Error("R4: side by side a need tells something else")
				}
				if n, e := back.Find(g, g.Exit(), row); e != api.OK || told(n, 4, g.Points()) != want {
					t.Error("R4: side by side something else is found")
				}
			}
		})
	}
	group.Wait()
}

func FuzzFind(f *testing.F) { // P16.1 to P16.4: run as a test, it goes through the seeds
	s := &stream{11}
	for n := range 100 {
		f.Add(s.program(n%5, 3, n%4, n%3 == 0, n%4 == 0), uint64(n), 1+n%7)
	}
	f.Add(mixed, uint64(7), 3)
	f.Fuzz(func(t *testing.T, text string, seed uint64, point int) {
		p, e, _ := lang.Parse(text)
		if e != api.OK {
			return
		}
		g, e := graph.Of(p)
		if e != api.OK {
			return
		}
		s := &stream{seed}
		row := s.row(len(g.Vars()))
		if point < 0 || point >= g.Points() {
			if n, e := back.Find(g, point, row); n != nil || e != api.ErrPoint {
				t.Fatalf("P16.3: %q at %d: %v", text, point, e)
			}
			return
		}
		like(t, text, g, point, row)
	})
}
