package session_test

import (
	"testing"

	"rafter/api"
	"rafter/session"
	"rafter/sketch"
)

// program draws a program with so many statements in a row at most, nested so deep at most.
func (s *stream) program(vars, long, deep int, pure, wide bool) string {
	return spelt(sketch.Program(s.next, sketch.Kind{Vars: vars, Long: long, Deep: deep, Pure: pure, Wide: wide, Rich: true}))
}

// drawn draws programs that a session takes, every second one pure, every third one with long numbers, and hands each one on with a session that holds it, and with what such a session must tell.
func drawn(t *testing.T, s *stream, count int, do func(text string, held *session.Session, m *model)) {
	t.Helper()
	taken := 0
	for n := range count {
		text := s.program(s.below(4)+s.below(4), 2+n%4, n%4, n%2 == 0, n%3 == 0)
		held, m := session.New(), &model{}
		e, at := held.Load(text)
		if want, place := m.load(text); e != want || at != place {
			t.Fatalf("P19.1: %q: %v at %v; want %v at %v", text, e, at, want, place)
		}
		if e == api.OK {
			taken++
			do(text, held, m)
		}
	}
	if taken < count/2 {
		t.Errorf("too few were drawn: %d of %d", taken, count)
	}
}
