package back_test

import (
	"testing"

	"rafter/api"
	"rafter/graph"
	"rafter/lang"
	"rafter/sketch"
)

// program draws a program with so many statements in a row at most, nested so deep at most.
func (s *stream) program(vars, long, deep int, pure, wide bool) string {
	return spelt(sketch.Program(s.next, sketch.Kind{Vars: vars, Long: long, Deep: deep, Pure: pure, Wide: wide}))
}

// drawn draws programs that have a graph, every second one pure, every third one with long numbers, and hands each one on.
func drawn(t *testing.T, s *stream, count int, do func(text string, g *graph.Graph)) {
	t.Helper()
	taken := 0
	for n := range count {
		text := s.program(s.below(5)+s.below(5), 2+n%4, n%4, n%2 == 0, n%3 == 0)
		if len(text) > api.MaxText {
			continue
		}
		p, e, at := lang.Parse(text)
		if e != api.OK {
			t.Fatalf("%q: %v at %v", text, e, at)
		}
		g, e := graph.Of(p)
		if e != api.OK {
			continue
		}
		taken++
		do(text, g)
	}
	if taken < count/2 {
		t.Errorf("too few were drawn: %d of %d", taken, count)
	}
}
