package machine_test

import (
	"fmt"
	"slices"
	"sync"
	"testing"

	"rafter/api"
	"rafter/graph"
	"rafter/lang"
	"rafter/machine"
)

// mixed is a program with long numbers everywhere, some of them the same, that goes along edges of all kinds.
const mixed = "vars x = 4294967297, y = 4294967297, z; loop { x := y; y := 4294967297 * x + 4294967297; choose { z := any; } or { z := y * y; } or { skip; } if z = 3 { z := x; } else { x := z / 4294967297; } y := z; }"

// mixedChoices go far in it.
func mixedChoices() []int {
	return []int{9876543210, 1, 0, 3, 1, 1, 1, 2, 1, 0, -9876543210, 1, 1, 1, 0, 9876543210, 0}
}

// wipe writes over a list, and the room behind it.
func wipe[T any](l []T, with T) {
	for i := range l[:cap(l)] {
		l[:cap(l)][i] = with
	}
}

// wipeStand writes over all that a stand tells.
func wipeStand(s api.Stand) {
	for _, x := range s.State {
		wipe(x.Mag, 77)
	}
	wipe(s.State, api.Whole{Neg: true, Mag: []uint32{5}})
}

// apart fails the test if two of these lists share memory, the room behind them included.
func apart(t *testing.T, what string, l [][]uint32) {
	t.Helper()
	for i, a := range l {
		wipe(a, uint32(i+1))
	}
	for i, a := range l {
		if slices.ContainsFunc(a[:cap(a)], func(x uint32) bool { return x != uint32(i+1) }) {
			t.Fatalf("R3: %s: two lists share memory", what)
		}
	}
}

// course answers all that a machine tells on its way, so many steps at a time.
func course(m *machine.Machine, fuel int) []string {
	out := []string{shown(m.Tell())}
	for m.Go(fuel) > 0 {
		out = append(out, shown(m.Tell()))
	}
	return out
}

func TestToldApart(t *testing.T) { // P11.8, R3: what was told is written on, and the run goes on as it would
	g := graphed(t, mixed)
	edges, begins := fmt.Sprint(g.Edges()), fmt.Sprint(g.Begins())
	want := course(begun(t, g, mixedChoices()...), 1)
	if len(want) < 30 {
		t.Fatalf("the run is too short: %v", want)
	}
	m := begun(t, g, mixedChoices()...)
	var last api.Stand
	for i, w := range want {
		if i > 0 && m.Go(1) != 1 {
			t.Fatalf("P11.4: no step behind %s", want[i-1])
		}
		if i > 0 && shown(last) != want[i-1] {
			t.Fatalf("P11.8: what was told has changed with a step: %s; want %s", shown(last), want[i-1])
		}
		one, two := m.Tell(), m.Tell()
		if shown(one) != w || shown(two) != w {
			t.Fatalf("P11.8: %s, %s; want %s", shown(one), shown(two), w)
		}
		var all [][]uint32
		for _, x := range slices.Concat(one.State, two.State) {
			all = append(all, x.Mag)
		}
		apart(t, "Tell", all)
		wipeStand(one)
		wipeStand(two)
		last = m.Tell()
	}
	if fmt.Sprint(g.Edges()) != edges || fmt.Sprint(g.Begins()) != begins {
		t.Error("R3: the graph has changed")
	}
	run := ran(t, g, mixedChoices(), 9)
	wipeStand(run)
	if got := shown(ran(t, g, mixedChoices(), 9)); got != want[9] {
		t.Errorf("P11.8: %s; want %s", got, want[9])
	}
}

func TestStatesListApart(t *testing.T) { // R3: two told lists of numbers share nothing, room behind them included
	m := begun(t, graphed(t, mixed), mixedChoices()...)
	one, two := m.Tell().State, m.Tell().State
	wipe(one, api.Whole{Neg: true, Mag: []uint32{1}})
	if got := say(two...); got != "4294967297 4294967297 9876543210" || say(m.Tell().State...) != got {
		t.Errorf("R3: %s", got)
	}
}

func TestChoicesNotKept(t *testing.T) { // P11.8, R3: neither changed nor kept, room behind them included
	g := graphed(t, mixed)
	state := numbers("4294967297 4294967297 9876543210")
	for name, made := range map[string]func([]int) (*machine.Machine, api.Errno){
		"Begin": func(l []int) (*machine.Machine, api.Errno) { return machine.Begin(g, l) },
		"From":  func(l []int) (*machine.Machine, api.Errno) { return machine.From(g, 0, state, l[1:]) },
	} {
		plain, _ := made(mixedChoices())
		want := course(plain, 2)
		room := append(mixedChoices(), 1, 1, 1)
		choices := room[:len(room)-3]
		m, e := made(choices)
		if e != api.OK || !slices.Equal(room, append(mixedChoices(), 1, 1, 1)) {
			t.Fatalf("R3: %s: %v, the choices are %v", name, e, room)
		}
		wipe(room, 2)
		if got := course(m, 2); !slices.Equal(got, want) {
			t.Errorf("P11.8: %s kept the choices: %v; want %v", name, got, want)
		}
		if slices.ContainsFunc(room, func(c int) bool { return c != 2 }) {
			t.Errorf("R3: %s: a step changed the choices: %v", name, room)
		}
	}
	room := append(mixedChoices(), 1, 1, 1)
	ran(t, g, room[:len(room)-3], 99)
	if !slices.Equal(room, append(mixedChoices(), 1, 1, 1)) {
		t.Errorf("R3: Run changed the choices: %v", room)
	}
}

func TestStateNotKept(t *testing.T) { // P11.8, R3, R5: the state of From stays as it is, and is not kept
	g := graphed(t, mixed)
	want := course(put(t, g, 1, numbers("4294967297 -4294967297 5"), mixedChoices()...), 1)
	mag := append(make([]uint32, 0, 6), 1, 1, 0, 0)
	copy(mag[:6][4:], []uint32{8, 9})
	state := append(make([]api.Whole, 0, 4), api.Whole{Mag: mag}, api.Whole{Neg: true, Mag: mag[:2]}, api.Whole{Mag: []uint32{5, 0}})
	state[:4][3] = api.Whole{Neg: true, Mag: []uint32{3}}
	was := fmt.Sprint(state[:4], mag[:6])
	m := put(t, g, 1, state, mixedChoices()...)
	n := put(t, g, 1, state, mixedChoices()...)
	if got := course(n, 1); !slices.Equal(got, want) {
		t.Errorf("R5: %v; want %v", got, want)
	}
	wipeStand(n.Tell())
	if got := fmt.Sprint(state[:4], mag[:6]); got != was {
		t.Errorf("R3: the state is %s; was %s", got, was)
	}
	wipe(mag, 66)
	wipe(state, api.Whole{Neg: true, Mag: []uint32{6}})
	if got := course(m, 1); !slices.Equal(got, want) {
		t.Errorf("P11.8: From kept the state: %v; want %v", got, want)
	}
}

func TestTellChangesNothing(t *testing.T) { // R4: however often it is asked, and whatever a call is refused
	g := graphed(t, mixed)
	want := course(begun(t, g, mixedChoices()...), 1)
	m := begun(t, g, mixedChoices()...)
	for i, w := range want {
		for range 3 {
			m.Go(0)
			m.Go(-1)
			if got := shown(m.Tell()); got != w {
				t.Fatalf("R4: %s; want %s", got, w)
			}
		}
		if made := m.Go(1); (made == 1) != (i+1 < len(want)) {
			t.Fatalf("P11.4: Go(1) made %d steps behind %s", made, w)
		}
	}
}

func TestTwoMachines(t *testing.T) { // P11.8, R4: two machines have nothing in common, of one graph and of one list of choices neither
	g := graphed(t, mixed)
	choices, others := mixedChoices(), []int{3, 1, 2, 1, 2, 1, 1, 1, 0, 7, 0}
	want, wantOther := course(begun(t, g, choices...), 1), course(begun(t, g, others...), 1)
	m, n, o := begun(t, g, choices...), begun(t, g, others...), begun(t, g, choices...)
	for i := range max(len(want), len(wantOther)) {
		if i < len(want) && (shown(m.Tell()) != want[i] || shown(o.Tell()) != want[0]) {
			t.Fatalf("R4: %s, %s; want %s, %s", shown(m.Tell()), shown(o.Tell()), want[i], want[0])
		}
		if i < len(wantOther) && shown(n.Tell()) != wantOther[i] {
			t.Fatalf("R4: %s; want %s", shown(n.Tell()), wantOther[i])
		}
		m.Go(1)
		n.Go(1)
	}
}

func TestSideBySide(t *testing.T) { // R4: calls made at the same time on one graph have nothing in common
	g := graphed(t, mixed)
	choices := mixedChoices()
	want := course(begun(t, g, choices...), 1)
	var group sync.WaitGroup
	for range 8 {
		group.Go(func() {
			for range 20 {
				m, e := machine.Begin(g, choices)
				if e != api.OK || !slices.Equal(course(m, 1), want) {
					t.Error("R4: side by side a run goes another way")
				}
				if s, e := machine.Run(g, choices, 5); e != api.OK || shown(s) != want[5] {
					t.Error("R4: side by side a run goes another way")
				}
			}
		})
	}
	group.Wait()
}

func FuzzRun(f *testing.F) { // P11.1 to P11.7: run as a test, it goes through the seeds
	s := &stream{9}
	for n := range 200 {
		f.Add(s.program(3, n%4, n%3 == 0).text(), fmt.Sprint(s.next(), s.next()), s.below(50))
	}
	f.Fuzz(func(t *testing.T, text, seed string, fuel int) {
		p, e, _ := lang.Parse(text)
		if e != api.OK {
			return
		}
		g, e := graph.Of(p)
		if e != api.OK {
			return
		}
		drawn := &stream{}
		for _, b := range []byte(seed) {
			drawn.at = drawn.at*257 + uint64(b)
		}
		choices := drawn.choices(drawn.below(50))
		fuel = min(fuel, 200)
		got, want := ran(t, g, choices, fuel), modelOf(g, choices).run(fuel)
		if shown(got) != shown(want) {
			t.Fatalf("P11.2 to P11.5: %q with %v, fuel %d: %.300s, want %.300s", text, choices, fuel, shown(got), shown(want))
		}
		if g.Pure() && got.Code != api.OK && got.Code != api.ErrTooBig {
			t.Fatalf("P11.7: %q with %v, fuel %d: %.300s", text, choices, fuel, shown(got))
		}
	})
}
