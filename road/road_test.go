package road_test

import (
	"fmt"
	"math"
	"testing"

	"rafter/api"
	"rafter/road"
	"rafter/solver"
)

const counting = "vars x = 0, y; loop { x := x + 1; y := y + 2; }"

// tale is what must be told of a sample: its road, its choices with the fuel and whether it is sure, and where the walk stands.
type tale struct {
	text, road, choices, stand string
	point, index               int
}

// check fails the test, if a call tells something else.
func (x tale) check(t *testing.T) {
	t.Helper()
	r := solved(t, x.text)
	w, e := road.To(r, x.point, x.index)
	if e != api.OK || sayRoad(w) != x.road {
		t.Errorf("P13.2: %q at %d, %d: %s, %v", x.text, x.point, x.index, sayRoad(w), e)
	}
	choices, fuel, sure, e := road.Choices(r, x.point, x.index)
	if got := fmt.Sprint(ints(choices), " ", fuel, " ", sure); e != api.OK || got != x.choices {
		t.Errorf("P13.3: %q at %d, %d: %s, %v", x.text, x.point, x.index, got, e)
	}
	s, e := road.Walk(r, x.point, x.index)
	if e != api.OK || sayStand(s) != spelt(x.stand) {
		t.Errorf("P13.4: %q at %d, %d: %s, %v", x.text, x.point, x.index, sayStand(s), e)
	}
}

func TestExamples(t *testing.T) { // P13.1 to P13.4
	for _, x := range []tale{
		{counting, "0 | 1 |  | true", "1 0 true", "0 | 0 1 | 0 1 | 0 0", 0, 1},
		{counting, "0 1 | 0 0 | 0 | true", "0 1 true", "1 | 0 0 | 1 1 | 2 0", 1, 0},
		{counting, "0 1 | 1 1 | 0 | true", "1 1 true", "1 | 0 1 | 1 1 | 2 0", 1, 1},
		{counting, "0 1 2 3 4 1 | 0 0 0 0 0 2 | 0 1 2 3 4 | true", "0 1 5 true", "1 | 1 2 | 5 2 | 2 0", 1, 2},
		{counting, "0 1 2 3 4 1 5 | 0 0 0 0 0 2 2 | 0 1 2 3 4 5 | true", "0 1 0 6 true", "5 | 1 2 | 6 3 | 1 0", 5, 2},
		{"vars;", "0 | 0 |  | true", " 0 true", "0 |  | 0 0 | 1 0", 0, 0},
		{"vars x = M;", "0 | 0 |  | true", " 0 true", "0 | M | 0 0 | 1 0", 0, 0},
		{"vars x, y = 1, z;", "0 | 0 |  | true", "0 0 0 true", "0 | 0 1 0 | 0 2 | 1 0", 0, 0},
		{"vars x, y = 1, z;", "0 | 1 |  | true", "1 0 0 true", "0 | 1 1 0 | 0 2 | 1 0", 0, 1},
		{"vars x, y = 1, z;", "0 | 2 |  | true", "0 1 0 true", "0 | 0 1 1 | 0 2 | 1 0", 0, 2},
		{"vars x = 7; x := any;", "0 1 | 0 0 | 0 | true", "0 1 true", "1 | 0 | 1 1 | 1 0", 1, 0},
		{"vars x = 7; x := any;", "0 1 | 0 1 | 0 | true", "1 1 true", "1 | 1 | 1 1 | 1 0", 1, 1},
		{"vars x = 7; choose { skip; } or { skip; } or { x := 9; }", "0 5 6 7 | 0 0 0 1 | 4 5 8 | true", "2 3 true", "7 | 9 | 3 1 | 1 0", 7, 1},
	} {
		x.check(t)
	}
}

func TestNotSure(t *testing.T) { // P13.2 to P13.4: what is not asked, and where a run goes in its place
	for _, x := range []tale{
		// the condition does not hold: the run goes the other way, which is shorter
		{"vars x = 5; if x = 1 { x := 7; }", "0 1 2 4 | 0 0 0 1 | 0 1 3 | false", " 3 false", "4 | 5 | 2 0 | 1 0", 4, 1},
		// it holds, and a run goes it nonetheless
		{"vars x = 1; if x = 1 { x := 7; }", "0 1 2 4 | 0 0 0 1 | 0 1 3 | false", " 3 false", "4 | 7 | 3 0 | 1 0", 4, 1},
		// what no form tells takes no choice, though its sample has a Value
		{"vars x, y; x := x * y; y := any;", "0 1 2 | 0 0 1 | 0 1 | false", "0 0 1 2 false", "2 | 0 1 | 2 3 | 1 0", 2, 1},
		{"vars x, y; x := x * y; y := any;", "0 1 2 | 0 1 2 | 0 1 | false", "0 0 0 2 false", "2 | 0 0 | 2 3 | 1 0", 2, 2},
		// a run gets stuck
		{"vars x = 3; x := 1 / (x - 3);", "0 1 | 0 1 | 0 | false", " 1 false", "0 | 3 | 0 0 | 3 20", 1, 1},
		// the edges ahead of a test are sure, those behind it are not
		{"vars x = 5; skip; while x = 1 { x := any; } skip;", "0 1 | 0 0 | 0 | true", " 1 true", "1 | 5 | 1 0 | 0 0", 1, 0},
		{"vars x = 5; skip; while x = 1 { x := any; } skip;", "0 1 2 5 6 | 0 0 0 0 0 | 0 1 5 6 | false", " 4 false", "6 | 5 | 4 0 | 1 0", 6, 0},
		// the choice that the other way would take is taken by what comes later
		{"vars x = 0, y = 0; if x = 1 { x := any; } choose { y := 1; } or { y := 2; }", "0 1 2 4 5 6 9 | 0 0 1 1 1 1 2 | 0 1 3 5 6 9 | false", "1 0 6 false", "9 | 0 2 | 5 1 | 1 0", 9, 2},
	} {
		x.check(t)
	}
}

// refused fails the test, if a call answers another error, or anything beside it.
func refused(t *testing.T, what string, r *solver.Result, point, index int, want api.Errno) {
	t.Helper()
	w, e := road.To(r, point, index)
	if e != want || sayRoad(w) != " |  |  | false" {
		t.Errorf("P13.2: To(%s, %d, %d): %s, %v; want %v", what, point, index, sayRoad(w), e, want)
	}
	choices, fuel, sure, e := road.Choices(r, point, index)
	if e != want || len(choices) > 0 || fuel != 0 || sure {
		t.Errorf("P13.3: Choices(%s, %d, %d): %v, %d, %v, %v; want %v", what, point, index, choices, fuel, sure, e, want)
	}
	s, e := road.Walk(r, point, index)
	if e != want || sayStand(s) != "0 |  | 0 0 | 0 0" || s.State != nil {
		t.Errorf("P13.4: Walk(%s, %d, %d): %s, %v; want %v", what, point, index, sayStand(s), e, want)
	}
}

func TestRefused(t *testing.T) { // P13.2 to P13.4, R2: nil ahead of the point, the point ahead of the index
	for _, at := range [][2]int{{0, 0}, {9, 0}, {-1, -1}, {0, 7}} {
		refused(t, "nil", nil, at[0], at[1], api.ErrArg)
	}
	r := solved(t, counting)
	for _, point := range []int{-1, 6, 9, math.MaxInt, math.MinInt} {
		for _, index := range []int{0, -1, 7, math.MaxInt, math.MinInt} {
			refused(t, counting, r, point, index, api.ErrPoint)
		}
	}
	for point := range 6 {
		for _, index := range []int{-1, len(r.Samples(point)), 7, math.MaxInt, math.MinInt} {
			refused(t, counting, r, point, index, api.ErrArg)
		}
	}
	stopped := "vars x = 1; stop; x := 2;"
	r = solved(t, stopped)
	refused(t, stopped, r, 1, 0, api.ErrArg) // a point that has no sample is a point nonetheless
	refused(t, stopped, r, 2, -1, api.ErrArg)
	refused(t, stopped, r, 3, 0, api.ErrPoint)
	refused(t, "a result that no call answered", &solver.Result{}, 0, 0, api.ErrPoint) // R1
}
