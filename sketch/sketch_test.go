package sketch_test

import (
	"strings"
	"testing"

	"rafter/api"
	"rafter/guard"
	"rafter/lang"
	"rafter/sketch"
)

// counter answers what a Program may ask: numbers in an order that hangs on seed alone.
func counter(seed uint64) func() uint32 {
	return func() uint32 {
		seed = seed*6364136223846793005 + 1442695040888963407
		return uint32(seed>>33 ^ seed>>17)
	}
}

// each hands on many kinds, with a program of each and how lang reads it.
func each(t *testing.T, do func(kind sketch.Kind, text string, p *lang.Program)) {
	t.Helper()
	for n := range 600 {
		kind := sketch.Kind{Vars: n % 9, Long: n % 5, Deep: n % 4, Pure: n%2 == 0, Wide: n%3 == 0, Rich: n%7 < 3}
		text := sketch.Program(counter(uint64(n)), kind)
		if len(text) > api.MaxText {
			continue
		}
		p, e, at := lang.Parse(strings.NewReplacer("M", "7", "N", "8", "K", "9").Replace(text))
		if e != api.OK {
			t.Fatalf("%v: %q: %v at %v", kind, text, e, at)
		}
		do(kind, text, p)
	}
}

func TestKinds(t *testing.T) { // what is drawn is of the kind that is asked for
	each(t, func(kind sketch.Kind, text string, p *lang.Program) {
		if len(p.Vars()) != kind.Vars {
			t.Errorf("%v: %q: %d variables", kind, text, len(p.Vars()))
		}
		if pure, at := guard.Pure(p); kind.Pure && !pure {
			t.Errorf("%v: %q: not pure at %v", kind, text, at)
		}
		if !kind.Wide && strings.ContainsAny(text, "MNK") {
			t.Errorf("%v: %q: long numbers", kind, text)
		}
		if !kind.Rich && strings.Contains(text, "else") {
			t.Errorf("%v: %q: else", kind, text)
		}
		for _, l := range p.Lines() {
			if l.Depth > max(kind.Deep, 1) {
				t.Errorf("%v: %q: nested %d deep", kind, text, l.Depth)
			}
		}
	})
}

func TestAll(t *testing.T) { // all that a program may say is drawn now and then
	seen := map[string]int{}
	words := strings.Fields("skip mark stop any := if while choose loop = != + - * / % M N K 4294967296 else")
	each(t, func(kind sketch.Kind, text string, p *lang.Program) {
		for _, w := range words {
			if strings.Contains(text, " "+w) || strings.Contains(text, "("+w) {
				seen[w]++
			}
		}
	})
	for _, w := range words {
		if seen[w] < 10 {
			t.Errorf("%s: %d times", w, seen[w])
		}
	}
}

func TestAgain(t *testing.T) { // what is asked for again is drawn again
	kind := sketch.Kind{Vars: 3, Long: 5, Deep: 3, Wide: true, Rich: true}
	other := 0
	for seed := range uint64(40) {
		text := sketch.Program(counter(seed), kind)
		if again := sketch.Program(counter(seed), kind); again != text {
			t.Errorf("%q; want %q", again, text)
		}
		if text != sketch.Program(counter(seed+1), kind) {
			other++
		}
	}
	if other < 30 {
		t.Error("too many are the same: ", 40-other)
	}
}
