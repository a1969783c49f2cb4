package prune_test

import (
	"fmt"
	"testing"

	"rafter/api"
	"rafter/lang"
	"rafter/prune"
)

// like fails the test, if what is left of a program is not what the model says.
func like(t *testing.T, text string, p, q *lang.Program, fired map[string]int) {
	t.Helper()
	lines, print := modelOf(t, text, p, fired)
	if got, want := fmt.Sprint(q.Lines()), fmt.Sprint(lines); got != want {
		t.Fatalf("P18.1: %q: %s; want %s", text, got, want)
	}
	if got := q.Print(); got != print {
		t.Fatalf("P18.1: %q: %q; want %q", text, got, print)
	}
	if fmt.Sprint(q.Vars(), q.Begins()) != fmt.Sprint(p.Vars(), p.Begins()) {
		t.Fatalf("P18.1: %q: %v", text, q.Begins())
	}
	if n, e := prune.Count(p); e != api.OK || n != len(p.Lines())-len(lines) {
		t.Fatalf("P18.2: %q: %d, %v", text, n, e)
	}
}

func TestLikeTheModel(t *testing.T) { // P18.1, P18.2
	s := &stream{1}
	fired := map[string]int{}
	drawn(t, s, 4000, func(text string, p, q *lang.Program) { like(t, text, p, q, fired) })
	for _, what := range []string{"1 no sample", "2 skip", "3 hard", "3 the same", "3 one number", "4 always", "4 never", "4 never, with else", "5 never", "5 always"} {
		if fired[what] < 60 {
			t.Errorf("too few of a kind were drawn: %s: %d", what, fired[what])
		}
	}
}
