package session_test

import (
	"fmt"
	"slices"
	"strings"
	"testing"

	"rafter/api"
	"rafter/session"
)

// holdsIn says whether a state meets an equation over a model's variables.
func (m *model) holdsIn(equation string, state []api.Whole) bool {
	row := m.row(equation)
	sum := toBig(row[len(state)])
	for i, x := range state {
		sum.Sub(sum, toBig(row[i]).Mul(toBig(row[i]), toBig(x)))
	}
	return sum.Sign() == 0
}

// asked is an equation that is implied at a point, given some others.
type asked struct {
	given    []string
	equation string
}

// impliedAt answers equations that are implied at a point, with or without others given: all that are told, drawn ones, and those that are told with something else.
func (s *stream) impliedAt(t *testing.T, held *session.Session, point int, at []api.Whole) []asked {
	t.Helper()
	names := namesOf(held)
	told, _ := held.Equations(point)
	var out []asked
	for _, q := range equations(t, held, point) {
		out = append(out, asked{nil, q})
	}
	for range 4 {
		var given []string
		for i, x := range at {
			if s.below(3) > 0 {
				given = append(given, names[i]+" = "+sayOne(x)) // so that some runs meet it
			}
		}
		if s.below(3) == 0 {
			given = []string{s.equation(told, names)}
		}
		q := s.equation(told, names)
		if is, _, _ := held.Given(point, given, q); is {
			out = append(out, asked{given, q})
		}
		if is, _, _ := held.Implied(point, q); is {
			out = append(out, asked{nil, q})
		}
	}
	return out
}

// sayOne answers a number as it stands in an equation.
func sayOne(x api.Whole) string { return toBig(x).String() }

func TestSound(t *testing.T) { // P19.3, W3, W12: where runs stand, what is implied is met, given that what is given is
	s := &stream{5}
	stood, met, narrow := 0, 0, 0
	drawn(t, s, 400, func(text string, held *session.Session, m *model) {
		for range 5 {
			u := run(t, held, s.choices(s.below(15)), s.below(40))
			if slices.ContainsFunc(bigs(u.State), tooLong) {
				continue
			}
			stood++
			for _, x := range s.impliedAt(t, held, u.Point, u.State) {
				breaks := func(q string) bool { return !m.holdsIn(q, u.State) }
				if slices.ContainsFunc(x.given, breaks) {
					continue
				}
				met++
				if len(x.given) > 0 {
					narrow++
				}
				if breaks(x.equation) {
					t.Fatalf("P19.3: %q: a run stands at %d in %s; given %q: %q", text, u.Point, say(u.State), x.given, x.equation)
				}
			}
		}
	})
	if stood < 1000 || met < 3000 || narrow < 300 {
		t.Errorf("too few of a kind were drawn: %d, %d, %d", stood, met, narrow)
	}
}

func TestExact(t *testing.T) { // P19.3, W4: of a program that is pure, what is not implied is broken by a run
	s := &stream{6}
	count := map[bool]int{}
	drawn(t, s, 500, func(text string, held *session.Session, m *model) {
		if !m.g.Pure() {
			return
		}
		for p := range m.g.Points() {
			told, _ := held.Equations(p)
			q := s.equation(told, namesOf(held))
			is, e, _ := held.Implied(p, q)
			if e != api.OK {
				continue
			}
			count[is]++
			w, e, at := held.Refute(p, q)
			if e != api.OK || at != (api.Place{}) || is != (w.Kind == api.FindHolds) || !is && w.Kind != api.FindShown {
				t.Fatalf("P19.3: %q at %d: %q: implied %v; %v, %v", text, p, q, is, w, e)
			}
			if is {
				continue
			}
			u := run(t, held, w.Choices, w.Fuel)
			if u.Point != p || say(u.State) != say(w.State) || m.holdsIn(q, u.State) {
				t.Fatalf("P19.3: %q at %d: %q: %v; the run stands at %d in %s", text, p, q, w, u.Point, say(u.State))
			}
		}
	})
	if count[true] < 500 || count[false] < 500 {
		t.Errorf("too few of a kind were drawn: %v", count)
	}
}

func TestGivenNothing(t *testing.T) { // P19.4: Given without any given is Implied, refusals too
	s := &stream{7}
	count := map[string]int{}
	drawn(t, s, 300, func(text string, held *session.Session, m *model) {
		for p := -1; p <= min(m.g.Points(), 12); p++ {
			told, _ := held.Equations(p)
			q := s.equation(told, namesOf(held))
			a, b, c := held.Implied(p, q)
			d, e, f := held.Given(p, nil, q)
			if a != d || b != e || c != f {
				t.Fatalf("P19.4: %q at %d: %q: %v, %v, %v; given nothing %v, %v, %v", text, p, q, a, b, c, d, e, f)
			}
			count[fmt.Sprint(a, b)]++
		}
	})
	if count["true error 0"] < 300 || count["false error 0"] < 300 || count["false error 100"] < 300 || count["false error 50"] < 50 {
		t.Errorf("too few of a kind were drawn: %v", count)
	}
}

func TestMoreGiven(t *testing.T) { // P19.4: more given makes no answer false; in any order, twice, and with what holds there they say the same
	s := &stream{8}
	kept, turned := 0, 0
	drawn(t, s, 300, func(text string, held *session.Session, m *model) {
		for range 6 {
			p := s.below(m.g.Points())
			told, _ := held.Equations(p)
			q := s.equation(told, namesOf(held))
			var given []string
			was, e, _ := held.Implied(p, q)
			for range 4 {
				more := s.equation(told, namesOf(held))
				if e, _ := m.refuses(nil, []string{more, q}); e != api.OK {
					continue
				}
				given = append(given, more)
				is, e2, _ := held.Given(p, given, q)
				if was && !is && e2 == api.OK {
					t.Fatalf("P19.4: %q at %d: %q is implied, and given %q it is not", text, p, q, given)
				}
				if was && is {
					kept++
				}
				if !was && is && e == api.OK {
					turned++
				}
				other := slices.Concat(equations(t, held, p), given, given)
				slices.Reverse(other)
				if again, e3, _ := held.Given(p, other, q); again != is || e3 != e2 {
					t.Fatalf("P19.4: %q at %d: %q given %q: %v, %v; given %q: %v, %v", text, p, q, given, is, e2, other, again, e3)
				}
				was, e = is, e2
			}
		}
	})
	if kept < 1000 || turned < 300 {
		t.Errorf("too few of a kind were drawn: %d, %d", kept, turned)
	}
}

func TestToldIsImplied(t *testing.T) { // P19.4: each line of Equations, of numbers at the limit too
	s := &stream{9}
	lines := 0
	ask := func(text string, held *session.Session) {
		for p := range sizeOf(t, held) {
			for _, q := range equations(t, held, p) {
				lines++
				if !implied(t, held, p, q) {
					t.Fatalf("P19.4: %q at %d: %q is told, and not implied", text, p, q)
				}
				if w, e, _ := held.Refute(p, q); w.Kind != api.FindHolds || e != api.OK {
					t.Fatalf("P19.4: %q at %d: %q is told: %v, %v", text, p, q, w, e)
				}
			}
		}
	}
	drawn(t, s, 300, func(text string, held *session.Session, m *model) { ask(text, held) })
	if lines < 2000 {
		t.Error("too few lines were told: ", lines)
	}
	names := "abcdefgh"
	var long strings.Builder // eight variables whose names are as long as they may be, and numbers likewise
	long.WriteString("vars ")
	for i := range names {
		long.WriteString(strings.Repeat(names[i:i+1], api.MaxName-1) + []string{", ", ";"}[i/7])
	}
	fmt.Fprintf(&long, "%s := M * %s", strings.Repeat("h", 15), strings.Repeat("a", 15))
	for i := 1; i < 7; i++ {
		fmt.Fprintf(&long, " + %s * %s", []string{"M", "N"}[i%2], strings.Repeat(names[i:i+1], 15))
	}
	ask("of long names and numbers", loaded(t, long.String()+";"))
}

func TestOneForm(t *testing.T) { // P19.5, W6: over the same variables the texts are the same just if the hulls are
	s := &stream{10}
	type place struct {
		of   string
		p    int
		text string
		m    *model
	}
	var all []place
	drawn(t, s, 600, func(text string, held *session.Session, m *model) {
		if !slices.Equal(m.p.Vars(), []string{"a", "b"}) {
			return
		}
		for p := range m.g.Points() {
			told, e := held.Equations(p)
			if e != api.OK {
				t.Fatalf("P19.2: %q at %d: %v", text, p, e)
			}
			all = append(all, place{text, p, told, m})
		}
	})
	same, others := 0, 0
	for i := range all {
		for range 30 {
			x, y := all[i], all[s.below(len(all))]
			one, _ := x.m.r.Span(x.p)
			two, _ := y.m.r.Span(y.p)
			if (x.text == y.text) != one.Same(two) {
				t.Fatalf("P19.5: %q at %d: %q; %q at %d: %q", x.of, x.p, x.text, y.of, y.p, y.text)
			}
			if x.text == y.text && x.of != y.of {
				same++
			}
			if x.text != y.text {
				others++
			}
		}
	}
	if same < 500 || others < 5000 {
		t.Errorf("too few of a kind were drawn: %d, %d", same, others)
	}
}

func TestVouched(t *testing.T) { // P19.6: Vouch(Certificate()), as long as its text is no longer than Vouch takes (P15.4)
	s := &stream{11}
	taken, spoilt := 0, 0
	drawn(t, s, 500, func(text string, held *session.Session, m *model) {
		c, e := held.Certificate()
		if e != api.OK {
			t.Fatalf("P19.2: %q: %v", text, e)
		}
		if len(c) > api.MaxScript {
			return
		}
		taken++
		if e, at := held.Vouch(c); e != api.OK || at != 0 {
			t.Fatalf("P19.6: %q: %v, %d: %q", text, e, at, c)
		}
		lines := strings.SplitAfter(c, "\n")
		at := s.below(len(lines) - 1)
		if e, _ := held.Vouch(strings.Join(slices.Delete(lines, at, at+1), "")); e != api.OK {
			spoilt++
		}
	})
	if taken < 300 || spoilt < 200 {
		t.Errorf("too few of a kind were drawn: %d, %d", taken, spoilt)
	}
}

func TestLongCertificate(t *testing.T) { // P19.2: at each point eight numbers as long as they may be; what Vouch refuses of so long a text is cert.Parse's
	var text strings.Builder
	text.WriteString("vars ")
	for i, name := range strings.Split("abcdefgh", "") {
		fmt.Fprintf(&text, "%s = %s%s", name, "M", []string{", ", "; "}[i/7])
	}
	for _, x := range []struct {
		skips int
		e     api.Errno
	}{{0, api.OK}, {11, api.OK}, {12, api.ErrTooBig}, {63, api.ErrTooBig}} {
		s := loaded(t, text.String()+strings.Repeat("skip;", x.skips))
		c, e := s.Certificate()
		if e != api.OK || strings.Count(c, "point\n") != x.skips+1 || (len(c) > api.MaxScript) != (x.e != api.OK) {
			t.Errorf("P19.2: %d points: %d bytes, %v", x.skips+1, len(c), e)
		}
		if e, at := s.Vouch(c); e != x.e || at != 0 {
			t.Errorf("P19.2: %d points: %v, %d; want %v", x.skips+1, e, at, x.e)
		}
	}
}

func TestOtherSigns(t *testing.T) { // P19.6, W13: blanks, comments and signs that look alike say the same
	one := loaded(t, "vars x = 2, y; y := x + 1; if x != 2 { } else { mark m; skip; } while x - y != -1 { stop; }")
	two := loaded(t, "vars x=2,y;# so\ny≔x+1;if x≠2{}else{mark m;skip;}while x−y≠−1{stop;}")
	if a, b := told(one, &stream{12}, 30), told(two, &stream{12}, 30); a != b {
		t.Errorf("P19.6: %s; %s", a, b)
	}
}
