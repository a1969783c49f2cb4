package span_test

import (
	"fmt"
	"math/big"
	"testing"

	"rafter/api"
	"rafter/span"
)

func TestExamplesMoved(t *testing.T) { // P7.6, P7.9: those of the chapter, and edges
	line, all, none := byPoints(t, 2, "0 0; 1 2"), ok(t)(span.All(2)), ok(t)(span.Empty(2))
	flat := byRows(t, 2, "1 0 3")
	f := row("0 1 1")
	one := ok(t)
	told(t, "P7.6: Join", one(byPoints(t, 2, "0 0").Join(byPoints(t, 2, "1 2"))), "2 -1 0", "0 0", "1 2")
	told(t, "P7.6: Meet", one(line.Meet(flat)), "1 0 3; 0 1 6", "3 6", "")
	told(t, "P7.6: Meet of lines side by side", one(line.Meet(byRows(t, 2, "2 -1 1"))), "0 0 1", "none", "")
	told(t, "P7.6: Join of lines side by side", one(line.Join(byRows(t, 2, "2 -1 1"))), "", "0 0", "1 0; 0 1")
	told(t, "P7.6: Join with none", one(none.Join(flat)), "1 0 3", "3 0", "0 1")
	told(t, "P7.6: Join with none", one(flat.Join(none)), "1 0 3", "3 0", "0 1")
	told(t, "P7.6: Join of none", one(none.Join(none)), "0 0 1", "none", "")
	told(t, "P7.6: Meet with none", one(flat.Meet(none)), "0 0 1", "none", "")
	told(t, "P7.6: Meet with all", one(all.Meet(flat)), "1 0 3", "3 0", "0 1")
	told(t, "P7.6: Meet of all", one(all.Meet(all)), "", "0 0", "1 0; 0 1")
	told(t, "P7.9: Set", one(line.Set(0, f)), "1 -1 1", "0 -1", "1 1")
	told(t, "P7.9: Set to itself", one(line.Set(0, row("1 0 0"))), "2 -1 0", "0 0", "1 2")
	told(t, "P7.9: Set to a number", one(line.Set(1, row("0 0 -7"))), "0 1 -7", "0 -7", "1 0")
	told(t, "P7.9: Set of none", one(none.Set(1, row("0 0 -7"))), "0 0 1", "none", "")
	told(t, "P7.9: Set to what is 0", one(line.Set(1, row("2 -1 4"))), "0 1 4", "0 4", "1 0")
	told(t, "P7.9: Set of a fraction", one(byPoints(t, 1, "1/2").Set(0, row("3 2"))), "2 7", "7/2", "")
	told(t, "P7.9: Any", one(line.Any(0)), "", "0 0", "1 0; 0 1")
	told(t, "P7.9: Any of what is any", one(flat.Any(1)), "1 0 3", "3 0", "0 1")
	told(t, "P7.9: Any of what is 3", one(flat.Any(0)), "", "0 0", "1 0; 0 1")
	told(t, "P7.9: Any of none", one(none.Any(0)), "0 0 1", "none", "")
	told(t, "P7.9: Before", one(line.Before(0, f)), "0 1 -2", "0 -2", "1 0")
	told(t, "P7.9: Before of a number", one(flat.Before(0, row("0 0 3"))), "", "0 0", "1 0; 0 1")
	told(t, "P7.9: Before of another number", one(flat.Before(0, row("0 0 4"))), "0 0 1", "none", "")
	told(t, "P7.9: Before of none", one(none.Before(0, f)), "0 0 1", "none", "")
	told(t, "P7.9: Before of all", one(all.Before(0, f)), "", "0 0", "1 0; 0 1")
	told(t, "P7.9: Before halved", one(flat.Before(0, row("2 0 0"))), "2 0 3", "3/2 0", "0 1")
	told(t, "P7.9: Every", one(line.Every(0)), "0 0 1", "none", "")
	told(t, "P7.9: Every", one(line.Every(1)), "0 0 1", "none", "")
	told(t, "P7.9: Every of all", one(all.Every(1)), "", "0 0", "1 0; 0 1")
	told(t, "P7.9: Every of what is any", one(flat.Every(1)), "1 0 3", "3 0", "0 1")
	told(t, "P7.9: Every of what is 3", one(flat.Every(0)), "0 0 1", "none", "")
	told(t, "P7.9: Every of none", one(none.Every(0)), "0 0 1", "none", "")
	told(t, "P7.6: no variable", one(one(span.All(0)).Join(one(span.Empty(0)))), "", "", "")
	told(t, "P7.6: no variable", one(one(span.All(0)).Meet(one(span.Empty(0)))), "1", "none", "")
}

func TestJoinAndMeetPlainly(t *testing.T) { // P7.6, held against the model
	s := &stream{7}
	for n := range 6 {
		all, models := s.spans(t, n, 16)
		for i, a := range all {
			for k, b := range all {
				what := fmt.Sprint(fields(a), " and ", fields(b))
				got, e := a.Join(b)
				like(t, "P7.6: Join of "+what, got, e, models[i].join(models[k]))
				got, e = a.Meet(b)
				like(t, "P7.6: Meet of "+what, got, e, models[i].meet(models[k]))
			}
		}
	}
}

// form answers a form over n variables: any, a number, or one that leaves v as it is or turns it round.
func (s *stream) form(n, v int) []api.Whole {
	f := s.row(n+1, s.below(3))
	switch s.below(4) {
	case 0:
		f = append(make([]api.Whole, n), s.whole(1))
	case 1:
		f = make([]api.Whole, n+1)
		f[v] = api.Whole{Neg: s.below(2) == 0, Mag: []uint32{1}}
		f[n] = s.whole(0)
	case 2:
		f[v] = api.Whole{}
	}
	return f
}

func TestMovesPlainly(t *testing.T) { // P7.9, held against the model
	s := &stream{8}
	for n := 1; n < 6; n++ {
		all, models := s.spans(t, n, 40)
		for i, a := range all {
			for v := range n {
				f := s.form(n, v)
				m := toRats([][]api.Whole{f}, wholeRat)[0]
				what := fmt.Sprint(fields(a), ", ", v, ", ", say(f))
				got, e := a.Set(v, f)
				like(t, "P7.9: Set of "+what, got, e, models[i].set(v, m))
				got, e = a.Any(v)
				like(t, "P7.9: Any of "+what, got, e, models[i].free(v))
				got, e = a.Before(v, f)
				like(t, "P7.9: Before of "+what, got, e, models[i].before(v, m))
				got, e = a.Every(v)
				like(t, "P7.9: Every of "+what, got, e, models[i].every(v))
			}
		}
	}
}

func TestMovesPointByPoint(t *testing.T) { // P7.9: as it is said, point by point
	s := &stream{9}
	for n := 1; n < 5; n++ {
		all, _ := s.spans(t, n, 30)
		for _, a := range all {
			v := s.below(n)
			f := s.form(n, v)
			set, e := a.Set(v, f)
			before, e2 := a.Before(v, f)
			free, e3 := a.Any(v)
			every, e4 := a.Every(v)
			if e != api.OK || e2 != api.OK || e3 != api.OK || e4 != api.OK {
				continue
			}
			var asked [][]api.Ratio
			for _, o := range []*span.Span{a, set, before, free, every} {
				asked = append(asked, some(o)...)
			}
			for _, p := range append(asked, s.points(3, n, 0)...) {
				moved, other := put(p, v, f), s.point(n, 1)
				for i := range p {
					if i != v {
						other[i] = p[i]
					}
				}
				what := fmt.Sprint("P7.9: ", fields(a), ", ", v, ", ", say(f), ", ", sayPoint(p))
				in := yes(t)(a.Has(p))
				if in && (!yes(t)(set.Has(moved)) || !yes(t)(free.Has(other))) {
					t.Fatal(what, ": Set or Any lacks what becomes of a point")
				}
				if yes(t)(before.Has(p)) != yes(t)(a.Has(moved)) {
					t.Fatal(what, ": Before")
				}
				if yes(t)(every.Has(p)) && (!in || !yes(t)(a.Has(other))) {
					t.Fatal(what, ": Every has a point that is none whatever its number is")
				}
			}
		}
	}
}

// some answers points of a span: its base, and others that are some steps away.
func some(s *span.Span) [][]api.Ratio {
	base, there := s.Base()
	if !there {
		return nil
	}
	at := toRats([][]api.Ratio{base}, toRat)
	for i, step := range toRats(s.Steps(), wholeRat) {
		by := rats("1 -2/3 5 7/2")[i%4]
		at = append(at, plus(at[i], by, step))
	}
	return toPoints(at)
}

// put answers a point with its number v as a form says.
func put(p []api.Ratio, v int, f []api.Whole) []api.Ratio {
	at, by := toRats([][]api.Ratio{p}, toRat)[0], toRats([][]api.Whole{f}, wholeRat)[0]
	sum := dot(by, at)
	at[v] = sum.Add(sum, by[len(p)])
	return toPoints([][]*big.Rat{at})[0]
}
