package refute_test

import (
	"math/big"
	"testing"

	"rafter/api"
	"rafter/machine"
	"rafter/refute"
	"rafter/road"
	"rafter/solver"
)

// meets says whether a state meets a row.
func meets(state, row []api.Whole) bool {
	left := new(big.Int)
	for i, x := range state {
		left.Add(left, new(big.Int).Mul(toBig(row[i]), toBig(x)))
	}
	return left.Cmp(toBig(row[len(state)])) == 0
}

// turn is what became of a try: the sample's index, and the kind of what was found out.
type turn struct {
	index int
	what  string
}

// model answers what Find must tell of a row, and what became of each try: the sample's walk broke the row, it met it, or it stood elsewhere.
func model(r *solver.Result, point int, row []api.Whole) (api.Witness, []turn) {
	out := api.Witness{Kind: api.FindHolds}
	var turns []turn
	for i, x := range r.Samples(point) {
		if meets(x.State, row) {
			continue
		}
		out.Kind = api.FindLost
		choices, fuel, _, _ := road.Choices(r, point, i)
		switch s, _ := road.Walk(r, point, i); {
		case s.Point != point:
			turns = append(turns, turn{i, "elsewhere"})
		case meets(s.State, row):
			turns = append(turns, turn{i, "met"})
		case say(s.State) != say(x.State):
			return api.Witness{Kind: api.FindShown, Fuel: fuel, Choices: choices, State: s.State}, append(turns, turn{i, "other"})
		default:
			return api.Witness{Kind: api.FindShown, Fuel: fuel, Choices: choices, State: s.State}, append(turns, turn{i, "same"})
		}
	}
	return out, turns
}

func TestLikeModel(t *testing.T) { // P14.1
	s := &stream{1}
	kinds, turns := map[int]int{}, map[string]int{}
	late := 0
	held(t, s, 200, func(text string, r *solver.Result) {
		for p := range r.Graph().Points() {
			for _, row := range s.rows(r, p) {
				want, tried := model(r, p, row)
				got, e := refute.Find(r, p, row)
				if e != api.OK || sayWitness(got) != sayWitness(want) {
					t.Fatalf("P14.1: %q at %d: %s: %s, %v; want %s", text, p, say(row), sayWitness(got), e, sayWitness(want))
				}
				kinds[want.Kind]++
				for i, x := range tried {
					turns[x.what]++
					if i > 0 && want.Kind == api.FindShown {
						late++
					}
				}
			}
		}
	})
	if kinds[api.FindHolds] < 5000 || kinds[api.FindShown] < 5000 || kinds[api.FindLost] < 1000 {
		t.Errorf("too few of a kind were drawn: %v", kinds)
	}
	if turns["elsewhere"] < 500 || turns["met"] < 100 || turns["other"] < 100 || turns["same"] < 5000 || late < 30 {
		t.Errorf("too few of a kind were tried: %v, %d shown behind others", turns, late)
	}
}

// drawChoices draws a list of choices, some of them no block's number.
func (s *stream) drawChoices() []int {
	var out []int
	for range s.below(9) {
		out = append(out, s.below(7)-2)
	}
	return out
}

func TestBreaksLikeModel(t *testing.T) { // P14.3
	s := &stream{2}
	count := map[string]int{}
	held(t, s, 200, func(text string, r *solver.Result) {
		g := r.Graph()
		for range 8 {
			choices, fuel := s.drawChoices(), s.below(25)-1
			stand, _ := machine.Run(g, choices, fuel)
			for _, p := range []int{stand.Point, s.below(g.Points())} {
				for _, row := range s.rows(r, p) {
					want := stand.Point == p && !meets(stand.State, row)
					if got, e := refute.Breaks(r, p, row, choices, fuel); e != api.OK || got != want {
						t.Fatalf("P14.3: %q at %d: %s by %v, %d: %v, %v; want %v", text, p, say(row), choices, fuel, got, e, want)
					}
					switch {
					case want:
						count["broken"]++
					case stand.Point == p:
						count["met"]++
					default:
						count["elsewhere"]++
					}
				}
			}
		}
	})
	if count["broken"] < 5000 || count["met"] < 5000 || count["elsewhere"] < 5000 {
		t.Errorf("too few of a kind were drawn: %v", count)
	}
}
