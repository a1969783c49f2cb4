package prune_test

import (
	"slices"
	"sync"
	"testing"

	"rafter/api"
	"rafter/lang"
	"rafter/prune"
)

// mixed is a program with long numbers, of which each kind of statement goes, turns and stays.
const mixed = "vars a = 4294967297, b = -4294967298, c, d; d := a + b; skip; choose { c := any; a := b + 1; } or { c := b * b; stop; mark n; } or { skip; } mark m; b := 0 - 1 - 4294967297; if b = c { c := a; } else { d := c; } if b != 7 { a := 4294967297 * b; mark o; } else { stop; } loop { d := d + 4294967297; } while b = 3 { skip; } while c = d { d := any; skip; } stop; skip;"

// leftOfMixed is what is left of it.
const leftOfMixed = "vars a = 4294967297, b = -4294967298, c, d;|d := -1;|choose {|c := any;|a := -4294967297;|} or {|c := b * b;|stop;|} or {|}|mark m;|if b = c {|c := a;|} else {|d := c;|}|a := -18446744086594453506;|mark o;|loop {|d := d + 4294967297;|}|while c = d {|d := any;|}|stop;"

// wipe writes over a list, and the room behind it.
func wipe[T any](l []T, with T) {
	for i := range l[:cap(l)] {
		l[:cap(l)][i] = with
	}
}

// wipeTold writes over all that a program tells.
func wipeTold(p *lang.Program) {
	wipe(p.Vars(), "z")
	wipe(p.Lines(), api.Line{Kind: 99})
	begins := p.Begins()
	for _, b := range begins {
		wipe(b.Value.Mag, 77)
	}
	wipe(begins, api.Begin{Any: true})
}

// apart fails the test if two of these lists share memory, the room behind them included.
func apart(t *testing.T, what string, l [][]uint32) {
	t.Helper()
	for i, a := range l {
		wipe(a, uint32(i+1))
	}
	for i, a := range l {
		if slices.ContainsFunc(a[:cap(a)], func(x uint32) bool { return x != uint32(i+1) }) {
			t.Fatalf("R3: %s: two lists share memory", what)
		}
	}
}

func TestMixed(t *testing.T) { leaves(t, "P18.1", mixed, leftOfMixed) }

func TestToldApart(t *testing.T) { // R3: what the two programs tell is written on, and both tell what they told
	p := parsed(t, mixed)
	was := told(p)
	q := pruned(t, p)
	want := told(q)
	var all [][]uint32
	for _, b := range slices.Concat(p.Begins(), q.Begins(), q.Begins(), pruned(t, p).Begins()) {
		all = append(all, b.Value.Mag)
	}
	apart(t, "Begins", all)
	for _, one := range []*lang.Program{p, q} {
		wipeTold(one)
		for _, d := range graphOf(t, one).Edges() {
			for _, x := range d.Row {
				wipe(x.Mag, 77)
			}
			wipe(d.Row, api.Whole{Neg: true})
		}
		if told(p) != was || told(q) != want {
			t.Errorf("R3: %s; pruned %s", told(p), told(q))
		}
	}
	if got := told(pruned(t, p)); got != want {
		t.Errorf("R3: %s; want %s", got, want)
	}
}

func TestProgramStays(t *testing.T) { // R3, R4: whatever was asked of it, in any order
	p := parsed(t, mixed)
	was, edges := told(p), sayEdges(graphOf(t, p))
	n, e := prune.Count(p)
	one := pruned(t, p)
	want := told(one)
	two := pruned(t, p)
	again, _ := prune.Count(p)
	three := pruned(t, parsed(t, mixed))
	prune.Prune(nil)
	pruned(t, one)
	if n != 11 || again != n || e != api.OK {
		t.Errorf("P18.2: %d, %d, %v", n, again, e)
	}
	if told(p) != was || sayEdges(graphOf(t, p)) != edges {
		t.Errorf("R3: %s; was %s", told(p), was)
	}
	for i, q := range []*lang.Program{one, two, three} {
		if told(q) != want {
			t.Errorf("R4: %d: %s; want %s", i, told(q), want)
		}
	}
	if one == two || one == p {
		t.Error("R4: one object")
	}
}

func TestSideBySide(t *testing.T) { // R4: calls made at the same time have nothing in common
	p := parsed(t, mixed)
	want := told(pruned(t, p))
	var group sync.WaitGroup
	for range 8 {
		group.Go(func() {
			for range 20 {
				q, e := prune.Prune(p)
				if e != api.OK || told(q) != want {
					t.Errorf("R4: side by side something else is left: %v", e)
				}
				if n, e := prune.Count(p); n != 11 || e != api.OK {
					t.Errorf("R4: side by side: %d, %v", n, e)
				}
			}
		})
	}
	group.Wait()
}

func FuzzPrune(f *testing.F) { // P18.1 to P18.4: run as a test, it goes through the seeds
	s := &stream{6}
	for n := range 100 {
		f.Add(s.program(n%5, 3, n%4, n%3 == 0, n%4 == 0))
	}
	f.Add(mixed)
	f.Add(scattered)
	f.Fuzz(func(t *testing.T, text string) {
		p, e, _ := lang.Parse(text)
		if e != api.OK || len(p.Print()) > api.MaxText { // the model reads its lines again
			return
		}
		q, e := prune.Prune(p)
		if e != api.OK {
			refusedToo(t, text, p, q, e)
			return
		}
		like(t, text, p, q, map[string]int{})
		tryRuns(t, &stream{7}, text, p, q, map[string]int{})
	})
}
