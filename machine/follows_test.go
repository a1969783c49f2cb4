package machine_test

import (
	"slices"
	"testing"

	"rafter/api"
	"rafter/graph"
)

func TestGoTwice(t *testing.T) { // P11.6: Go(a) and then Go(b) are Go(a + b)
	s := &stream{5}
	drawn(t, s, 1500, func(_ *program, text string, g *graph.Graph) {
		choices := s.choices(s.below(40))
		a, b := s.below(40), s.below(40)
		once, twice, singly := begun(t, g, choices...), begun(t, g, choices...), begun(t, g, choices...)
		made := once.Go(a + b)
		if parts := twice.Go(a) + twice.Go(b); parts != made {
			t.Fatalf("P11.6: %q: Go(%d), Go(%d) made %d steps, Go of both %d", text, a, b, parts, made)
		}
		for range a + b {
			singly.Go(1)
			singly.Tell() // which changes nothing
		}
		if want := shown(once.Tell()); shown(twice.Tell()) != want || shown(singly.Tell()) != want {
			t.Fatalf("P11.6: %q: Go(%d), Go(%d): %s; one by one %s; at once %s", text, a, b, shown(twice.Tell()), shown(singly.Tell()), want)
		}
	})
}

// atRest answers a stand in which it is not told whether it waits: that hangs on the choice behind those that were used.
func atRest(s api.Stand) api.Stand {
	if s.Why == api.WhyWait {
		s.Why = api.WhyGo
	}
	return s
}

func TestChoicesBehind(t *testing.T) { // P11.6: what a run does hangs on the choices that it uses alone
	s := &stream{6}
	met := make([]int, 4)
	drawn(t, s, 2500, func(p *program, text string, g *graph.Graph) {
		choices, fuel := s.choices(p.anys()+s.below(20)), s.below(80)
		was := ran(t, g, choices, fuel)
		met[was.Why]++
		used, more := choices[:was.Used], slices.Concat(choices, s.choices(9))
		for _, others := range [][]int{used, slices.Concat(used, s.choices(9)), more} {
			got := ran(t, g, others, was.Steps)
			if shown(atRest(got)) != shown(atRest(was)) {
				t.Fatalf("P11.6: %q with %v, fuel %d: %s; with %v: %s", text, choices, fuel, shown(was), others, shown(got))
			}
			if got := ran(t, g, others, fuel); was.Why != api.WhyWait && shown(atRest(got)) != shown(atRest(was)) {
				t.Fatalf("P11.6: %q with %v, fuel %d: %s; with %v: %s", text, choices, fuel, shown(was), others, shown(got))
			}
		}
		if was.Why != api.WhyWait {
			return
		}
		if on := ran(t, g, more, was.Steps+1); was.Used != len(choices) || on.Steps != was.Steps+1 || on.Used != was.Used+1 {
			t.Fatalf("P11.6: %q with %v: it waits, %s; with more behind them %s", text, choices, shown(was), shown(on))
		}
	})
	if slices.Min(met) < 50 {
		t.Errorf("too few of a kind were drawn: %v", met)
	}
}

func TestPureStuck(t *testing.T) { // P11.7: a pure program gets stuck with ErrTooBig alone
	s := &stream{7}
	pure, stuck := 0, 0
	drawn(t, s, 3000, func(_ *program, text string, g *graph.Graph) {
		if !g.Pure() {
			return
		}
		pure++
		got := put(t, g, s.below(g.Points()), s.state(len(g.Vars())), s.choices(60)...)
		got.Go(200)
		for _, at := range []api.Stand{ran(t, g, s.choices(60), 200), got.Tell()} {
			if at.Why == api.WhyStuck {
				stuck++
			}
			if at.Code != api.OK && at.Code != api.ErrTooBig || (at.Why == api.WhyStuck) != (at.Code == api.ErrTooBig) {
				t.Fatalf("P11.7: %q: %.300s", text, shown(at))
			}
		}
	})
	if pure < 500 || stuck < 25 {
		t.Errorf("too few of a kind were drawn: %d pure, %d stuck", pure, stuck)
	}
}

func TestGoesOnFrom(t *testing.T) { // P11.7: From of where a run stands goes on as that run, but for Steps and Used
	s := &stream{8}
	met := make([]int, 4)
	drawn(t, s, 2500, func(_ *program, text string, g *graph.Graph) {
		choices := s.choices(s.below(40))
		m := begun(t, g, choices...)
		m.Go(s.below(40))
		was := m.Tell()
		n := put(t, g, was.Point, was.State, choices[was.Used:]...)
		for range 4 {
			fuel := s.below(20)
			if a, b := m.Go(fuel), n.Go(fuel); a != b {
				t.Fatalf("P11.7: %q: Go(%d) made %d steps, From's %d", text, fuel, a, b)
			}
			want, got := m.Tell(), n.Tell()
			got.Steps += was.Steps
			got.Used += was.Used
			if shown(got) != shown(want) {
				t.Fatalf("P11.7: %q with %v from %s: %s; want %s", text, choices, shown(was), shown(got), shown(want))
			}
			met[got.Why]++
		}
	})
	if slices.Min(met) < 100 {
		t.Errorf("too few of a kind were drawn: %v", met)
	}
}
