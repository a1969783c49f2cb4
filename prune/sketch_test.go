package prune_test

import (
	"testing"

	"rafter/api"
	"rafter/graph"
	"rafter/lang"
	"rafter/prune"
	"rafter/sketch"
	"rafter/solver"
)

// program draws a program with so many statements in a row at most, nested so deep at most.
func (s *stream) program(vars, long, deep int, pure, wide bool) string {
	return spelt(sketch.Program(s.next, sketch.Kind{Vars: vars, Long: long, Deep: deep, Pure: pure, Wide: wide, Rich: true}))
}

// drawn draws programs that are pruned, every second one pure, every third one with long numbers, and hands each one on with what is left of it.
func drawn(t *testing.T, s *stream, count int, do func(text string, p, q *lang.Program)) {
	t.Helper()
	taken := 0
	for n := range count {
		text := s.program(s.below(4)+s.below(4), 2+n%4, n%4, n%2 == 0, n%3 == 0)
		if len(text) > api.MaxText {
			continue
		}
		p, e, at := lang.Parse(text)
		if e != api.OK {
			t.Fatalf("%q: %v at %v", text, e, at)
		}
		q, e := prune.Prune(p)
		if e != api.OK {
			refusedToo(t, text, p, q, e)
			continue
		}
		taken++
		do(text, p, q)
	}
	if taken < count/2 {
		t.Errorf("too few were drawn: %d of %d", taken, count)
	}
}

// refusedToo fails the test, if what refused a program is neither its graph nor what the solver finds of it.
func refusedToo(t *testing.T, text string, p, q *lang.Program, e api.Errno) {
	t.Helper()
	g, want := graph.Of(p)
	if want == api.OK {
		_, want = solver.Solve(g)
	}
	if q != nil || e != want {
		t.Fatalf("P18.1: %q: %v; want %v", text, e, want)
	}
}
