package span_test

import (
	"fmt"
	"slices"
	"testing"

	"rafter/api"
	"rafter/matrix"
	"rafter/span"
)

// inForm fails the test if a matrix is not in echelon form, as P6.1 says it.
func inForm(t *testing.T, what string, m [][]api.Whole, cols int) {
	t.Helper()
	low, e := matrix.Echelon(m, cols)
	if e != api.OK || !equal(low, m) {
		t.Fatalf("%s: not in echelon form: %s", what, sayAll(m))
	}
}

func TestToldTwice(t *testing.T) { // P7.2, P7.3, P7.10
	s := &stream{10}
	for n := range 6 {
		all, _ := s.spans(t, n, 40)
		for _, a := range all {
			what := "P7.10: " + fields(a)
			inForm(t, what, a.Rows(), n+1)
			inForm(t, what, a.Steps(), n)
			base, there := a.Base()
			if !there {
				if a.Dim() != -1 || len(a.Steps()) != 0 || len(a.Rows()) != 1 {
					t.Fatal(what)
				}
				continue
			}
			if len(a.Rows())+len(a.Steps()) != n || a.Dim() != len(a.Steps()) || len(base) != n {
				t.Fatal(what, ": rows and steps are not together n")
			}
			for _, step := range a.Steps() {
				at := slices.IndexFunc(step, func(x api.Whole) bool { return len(x.Mag) > 0 })
				if len(base[at].Num.Mag) > 0 {
					t.Fatal(what, ": the base is not 0 where a step leads")
				}
			}
			for _, r := range toRats(a.Rows(), wholeRat) {
				for _, p := range toRats(some(a), toRat) {
					if dot(r, p).Cmp(r[n]) != 0 {
						t.Fatal(what, ": a point does not meet a row")
					}
				}
			}
			if !ok(t)(span.Rows(n, a.Rows())).Same(a) || !ok(t)(span.Points(n, append(some(a), base))).Same(a) {
				t.Fatal(what, ": the two ways say other sets")
			}
		}
	}
}

func TestOneForm(t *testing.T) { // P7.11
	s := &stream{11}
	for n := range 4 {
		all, models := s.spans(t, n, 40)
		for i, a := range all {
			for k, b := range all {
				same := models[i].within(models[k]) && models[k].within(models[i])
				rows := equal(a.Rows(), b.Rows())
				baseA, thereA := a.Base()
				baseB, thereB := b.Base()
				points := thereA == thereB && fmt.Sprint(baseA) == fmt.Sprint(baseB) && equal(a.Steps(), b.Steps())
				textA, _ := a.Print(names[:n])
				textB, _ := b.Print(names[:n])
				if a.Same(b) != same || rows != same || points != same || (textA == textB) != same {
					t.Fatalf("P7.11: %s, %s: %v, %v, %v, %v", fields(a), fields(b), a.Same(b), rows, points, textA == textB)
				}
			}
		}
	}
}

// oneSpan says whether all of l are one and the same set, and tell it alike.
func oneSpan(l ...*span.Span) bool {
	return !slices.ContainsFunc(l, func(s *span.Span) bool { return !s.Same(l[0]) || fields(s) != fields(l[0]) })
}

func TestLattice(t *testing.T) { // P7.12
	s := &stream{12}
	type made func(s *span.Span, o *span.Span) (*span.Span, api.Errno)
	for n := range 5 {
		all, _ := s.spans(t, n, 12)
		for _, do := range []made{(*span.Span).Join, (*span.Span).Meet} {
			for _, a := range all {
				for _, b := range all {
					ab, ba := ok(t)(do(a, b)), ok(t)(do(b, a))
					if !oneSpan(ab, ba) || !oneSpan(a, ok(t)(do(a, a))) {
						t.Fatalf("P7.12: the order: %s, %s", fields(a), fields(b))
					}
					for _, c := range all[:6] {
						bc := ok(t)(do(b, c))
						if !oneSpan(ok(t)(do(ab, c)), ok(t)(do(a, bc))) {
							t.Fatalf("P7.12: the grouping: %s, %s, %s", fields(a), fields(b), fields(c))
						}
					}
				}
			}
		}
		for _, a := range all {
			for _, b := range all {
				join, meet := ok(t)(a.Join(b)), ok(t)(a.Meet(b))
				in := yes(t)(a.Within(b))
				if !oneSpan(a, ok(t)(a.Join(meet))) || !oneSpan(a, ok(t)(a.Meet(join))) {
					t.Fatalf("P7.12: Join with Meet: %s, %s", fields(a), fields(b))
				}
				if in != join.Same(b) || in != meet.Same(a) || in && !a.Same(b) && a.Dim() >= b.Dim() {
					t.Fatalf("P7.12: Within: %s, %s", fields(a), fields(b))
				}
			}
		}
	}
}

func TestMovesFollow(t *testing.T) { // P7.13, P7.14
	s := &stream{13}
	for n := 1; n < 5; n++ {
		all, _ := s.spans(t, n, 14)
		for _, a := range all {
			for _, b := range all {
				v := s.below(n)
				f := s.form(n, v)
				what := fmt.Sprint(fields(a), " and ", fields(b), ", ", v, ", ", say(f))
				join, meet := ok(t)(a.Join(b)), ok(t)(a.Meet(b))
				set := func(o *span.Span) *span.Span { return ok(t)(o.Set(v, f)) }
				free := func(o *span.Span) *span.Span { return ok(t)(o.Any(v)) }
				before := func(o *span.Span) *span.Span { return ok(t)(o.Before(v, f)) }
				every := func(o *span.Span) *span.Span { return ok(t)(o.Every(v)) }
				if !oneSpan(set(join), ok(t)(set(a).Join(set(b)))) || !oneSpan(free(join), ok(t)(free(a).Join(free(b)))) {
					t.Fatal("P7.13: Join: ", what)
				}
				if !oneSpan(before(meet), ok(t)(before(a).Meet(before(b)))) || !oneSpan(every(meet), ok(t)(every(a).Meet(every(b)))) {
					t.Fatal("P7.13: Meet: ", what)
				}
				for _, o := range []*span.Span{b, set(a), free(a), ok(t)(set(a).Join(b))} {
					if yes(t)(set(a).Within(o)) != yes(t)(a.Within(before(o))) || yes(t)(free(a).Within(o)) != yes(t)(a.Within(every(o))) {
						t.Fatal("P7.13: Within: ", what)
					}
				}
			}
			noughts, ones := make([]api.Whole, n+1), append(make([]api.Whole, n), row("1")[0])
			for v := range n {
				any := ok(t)(ok(t)(a.Set(v, noughts)).Join(ok(t)(a.Set(v, ones))))
				every := ok(t)(ok(t)(a.Before(v, noughts)).Meet(ok(t)(a.Before(v, ones))))
				if !oneSpan(any, ok(t)(a.Any(v))) || !oneSpan(every, ok(t)(a.Every(v))) {
					t.Fatalf("P7.14: %s, %d", fields(a), v)
				}
			}
		}
	}
}

func TestHoldsIsWithin(t *testing.T) { // P7.15
	s := &stream{14}
	var held int
	for n := range 5 {
		all, _ := s.spans(t, n, 30)
		for _, a := range all {
			rows := append(s.rows(6, n, 1), a.Rows()...)
			for _, r := range append(rows, make([]api.Whole, n+1), mixed(rows[0], 1, rows[len(rows)-1], -1)) {
				holds := yes(t)(a.Holds(r))
				if holds != yes(t)(a.Within(ok(t)(span.Rows(n, [][]api.Whole{r})))) {
					t.Fatalf("P7.15: %s, %s", fields(a), say(r))
				}
				if holds {
					held++
				}
			}
		}
	}
	if held < 100 {
		t.Error("too few rows are held: ", held)
	}
}
