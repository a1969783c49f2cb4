package cert_test

import (
	"fmt"
	"slices"
	"strings"
	"sync"
	"testing"

	"rafter/api"
	"rafter/cert"
	"rafter/graph"
	"rafter/lang"
	"rafter/solver"
)

// mixed is a program with long numbers, some of them the same, and edges of all kinds.
const mixed = "vars a = 4294967297, b = 4294967297, c, d = 4294967298; a := b; skip; choose { c := any; } or { c := b * b; } or { skip; } mark m; b := 4294967297 * a + 4294967297; if c = 3 { c := a; } else { d := c; } loop { d := d + 4294967297; } stop; skip;"

// wipe writes over a list, and the room behind it.
func wipe[T any](l []T, with T) {
	for i := range l[:cap(l)] {
		l[:cap(l)][i] = with
	}
}

// parts are all lists that a certificate is made of, by their kinds.
type parts struct {
	mags    [][]uint32
	lists   [][]api.Whole
	rows    [][][]api.Whole
	samples [][]api.Sample
}

// partsOf answers the lists of a certificate.
func partsOf(c []api.CertPoint) parts {
	var out parts
	for _, x := range c {
		out.rows, out.samples = append(out.rows, x.Rows), append(out.samples, x.Samples)
		out.lists = append(out.lists, x.Rows...)
		for _, s := range x.Samples {
			out.lists = append(out.lists, s.State)
		}
	}
	for _, l := range out.lists {
		for _, x := range l {
			out.mags = append(out.mags, x.Mag)
		}
	}
	return out
}

// shared says whether two of these lists share memory, the room behind them included: each is written full of a mark of its own.
func shared[T any](all [][]T, mark func(i int) T, has func(x T) int) bool {
	for i, l := range all {
		wipe(l, mark(i))
	}
	for i, l := range all {
		if slices.ContainsFunc(l[:cap(l)], func(x T) bool { return has(x) != i }) {
			return true
		}
	}
	return false
}

// apart fails the test if two lists of a certificate share memory. The certificate is written over.
func apart(t *testing.T, what string, c []api.CertPoint) {
	t.Helper()
	p := partsOf(c)
	if shared(p.mags, func(i int) uint32 { return uint32(i) }, func(x uint32) int { return int(x) }) {
		t.Errorf("R3: %s: two numbers share memory", what)
	}
	if shared(p.lists, func(i int) api.Whole { return api.Whole{Mag: make([]uint32, i)} }, func(x api.Whole) int { return len(x.Mag) }) {
		t.Errorf("R3: %s: two rows or states share memory", what)
	}
	if shared(p.rows, func(i int) []api.Whole { return make([]api.Whole, i) }, func(x []api.Whole) int { return len(x) }) {
		t.Errorf("R3: %s: two lists of rows share memory", what)
	}
	if shared(p.samples, func(i int) api.Sample { return api.Sample{Point: i} }, func(x api.Sample) int { return x.Point }) {
		t.Errorf("R3: %s: two lists of samples share memory", what)
	}
	wipe(c, api.CertPoint{})
}

// toldResult answers all that a result tells, and its graph, as a text.
func toldResult(r *solver.Result) string {
	var out strings.Builder
	for p := range r.Graph().Points() {
		fmt.Fprintln(&out, p, sayRows(r.Rows(p)), r.Samples(p))
	}
	return out.String() + fmt.Sprint(r.Graph().Edges(), r.Graph().Begins(), r.Graph().Vars())
}

func TestToldApart(t *testing.T) { // R3: what was answered is written over; neither the other lists nor later answers tell of it
	r := solved(t, mixed)
	was, text := toldResult(r), cert.Print(cert.Of(r))
	apart(t, "Of", slices.Concat(cert.Of(r), cert.Of(r)))
	if toldResult(r) != was || cert.Print(cert.Of(r)) != text {
		t.Error("R3: Of: the result has changed")
	}
	apart(t, "Parse", slices.Concat(parsed(t, text), parsed(t, text)))
	if cert.Print(parsed(t, text)) != text {
		t.Error("R3: Parse: it is read as something else")
	}
	small := "point\nrow 1 1 -1 0 0\nrow 0 0\nsample 1 1 1 1 1 1 2\nsample 1 1 1 1 0\npoint\nrow 1\n"
	apart(t, "Parse", slices.Concat(parsed(t, small), parsed(t, small)))
}

// roomy answers a certificate in lists with room behind them, in which something stands; limbs 0 stand on top.
func roomy(c []api.CertPoint) []api.CertPoint {
	numbers := func(l []api.Whole) []api.Whole {
		var out []api.Whole
		for _, x := range l {
			out = append(out, api.Whole{Neg: x.Neg, Mag: withRoom(append(slices.Clone(x.Mag), 0, 0), 99)})
		}
		return withRoom(out, api.Whole{Neg: true, Mag: []uint32{98}})
	}
	out := slices.Clone(c)
	for p, x := range out {
		var rows [][]api.Whole
		for _, row := range x.Rows {
			rows = append(rows, numbers(row))
		}
		samples := slices.Clone(x.Samples)
		for i := range samples {
			samples[i].State = numbers(samples[i].State)
		}
		out[p] = api.CertPoint{Rows: withRoom(rows, nil), Samples: withRoom(samples, api.Sample{Edge: 97})}
	}
	return withRoom(out, api.CertPoint{Samples: []api.Sample{{Index: 96}}})
}

// withRoom answers a list with room behind it, in which the same thing stands everywhere.
func withRoom[T any](l []T, behind T) []T {
	out := append(make([]T, 0, len(l)+3), l...)
	wipe(out[len(out):], behind)
	return out
}

// inFull answers all that a certificate is made of, the room behind the lists included.
func inFull(c []api.CertPoint) string {
	var out strings.Builder
	p := partsOf(c)
	for _, l := range p.mags {
		fmt.Fprintln(&out, len(l), l[:cap(l)])
	}
	for _, l := range p.lists {
		fmt.Fprintln(&out, len(l), l[:cap(l)])
	}
	for _, l := range p.rows {
		fmt.Fprintln(&out, len(l), l[:cap(l)])
	}
	for _, l := range p.samples {
		fmt.Fprintln(&out, len(l), l[:cap(l)])
	}
	return out.String() + fmt.Sprint(len(c), c[:cap(c)])
}

func TestHandedIn(t *testing.T) { // R3: what is handed in stays as it is, and is not kept
	s := &stream{12}
	met := map[bool]int{}
	drawn(t, s, 200, func(text string, g *graph.Graph) {
		plain := s.wandered(g, s.below(3) == 0)
		if s.below(2) == 0 {
			plain = s.spoilt(g, plain)
		}
		c := roomy(plain)
		was, wasGraph := inFull(c), fmt.Sprint(g.Edges(), g.Begins())
		code, at := cert.Check(g, c)
		written := cert.Print(c)
		if inFull(c) != was || fmt.Sprint(g.Edges(), g.Begins()) != wasGraph {
			t.Fatalf("R3: %q: what was handed in has changed", text)
		}
		apart(t, text, c)
		checks(t, text+" again", g, plain, code, at)
		if cert.Print(plain) != written {
			t.Fatalf("R3: %q: what was handed in was kept", text)
		}
		met[code == api.OK]++
	})
	if met[true] < 20 || met[false] < 20 {
		t.Errorf("too few of a kind were drawn: %v", met)
	}
}

// toldAll answers what the calls tell of a graph, right certificates and wrong ones, as a text.
func toldAll(g *graph.Graph) string {
	var out strings.Builder
	r, _ := solver.Solve(g)
	s := &stream{13}
	for range 5 {
		for _, c := range [][]api.CertPoint{cert.Of(r), s.spoilt(g, cert.Of(r)), s.wandered(g, true), nil} {
			code, at := cert.Check(g, c)
			again, e, line := cert.Parse(s.scratched(cert.Print(c)))
			fmt.Fprintln(&out, code, at, cert.Print(c), e, line, cert.Print(again))
		}
	}
	return out.String()
}

func TestAskedAgain(t *testing.T) { // R4, R7: whatever was asked and refused before
	g := graphed(t, mixed)
	want := toldAll(g)
	cert.Check(nil, nil)
	cert.Check(g, make([]api.CertPoint, g.Points()))
	cert.Parse("point\nrow x\n")
	cert.Parse(strings.Repeat("point\n", api.MaxScript))
	if got := toldAll(g); got != want {
		t.Errorf("R4: %s; want %s", got, want)
	}
	if got := toldAll(graphed(t, mixed)); got != want {
		t.Errorf("R4: of another graph of the same text: %s; want %s", got, want)
	}
}

func TestSideBySide(t *testing.T) { // R4: calls made at the same time have nothing in common
	g := graphed(t, mixed)
	want := toldAll(g)
	var group sync.WaitGroup
	for range 8 {
		group.Go(func() {
			if toldAll(g) != want {
				t.Error("R4: side by side something else is told")
			}
		})
	}
	group.Wait()
}

func FuzzParse(f *testing.F) { // P15.3, P15.4, P15.8: run as a test, it goes through the seeds
	s := &stream{14}
	for _, text := range []string{shortText, "", "point\nrow\n", "point\nrow 0 -1 " + strings.Repeat("9", 6000) + "\npoint\nsample 1 2 3 4 5\n"} {
		f.Add(text)
		for range 20 {
			f.Add(s.scratched(text))
		}
	}
	f.Fuzz(func(t *testing.T, text string) { readsLike(t, text) })
}

func FuzzCheck(f *testing.F) { // P15.1 to P15.6: run as a test, it goes through the seeds
	s := &stream{15}
	for n := range 60 {
		f.Add(s.program(n%5, 3, n%4, n%3 == 0, n%4 == 0), uint64(n))
	}
	f.Add(mixed, uint64(7))
	f.Fuzz(func(t *testing.T, text string, seed uint64) {
		p, e, _ := lang.Parse(text)
		if e != api.OK {
			return
		}
		g, e := graph.Of(p)
		if e != api.OK {
			return
		}
		s := &stream{seed}
		like(t, text, g, s.wandered(g, true))
		r, e := solver.Solve(g)
		if e != api.OK {
			return
		}
		if like(t, text, g, cert.Of(r)) != api.OK {
			t.Fatalf("P15.5: %q", text)
		}
		for range 5 {
			if c := s.spoilt(g, cert.Of(r)); like(t, text, g, c) == api.OK {
				sound(t, s, text, g, c)
			}
		}
	})
}
