package session_test

import (
	"fmt"
	"slices"
	"strings"
	"testing"

	"rafter/api"
	"rafter/session"
)

// parts answers the equations of a text, `;` between them; none of the empty one.
func parts(text string) []string {
	if text == "" {
		return nil
	}
	return strings.Split(spelt(text), ";")
}

func TestGiven(t *testing.T) { // P19.2, by hand; `big` for ErrTooBig
	const ramp = "vars x = 0, y = 0, z = 0; loop { x := x + 1; y := y + 2; z := z + x; } mark m;"
	const fall, rise = "vars x, y, z; z := -M * x;", "vars x, y, z;"
	for _, x := range []struct {
		text            string
		point           int
		given, equation string
		want            string
	}{
		{loops, 6, "x = 3", "y = 7", "true"}, {loops, 6, "x = 3", "y = 8", "false"}, {loops, 6, "", "y = 2x + 1", "true"}, {loops, 6, "", "y = 7", "false"}, {loops, 6, "y = 7", "x = 3", "true"}, {loops, 6, "x = 3;y = 7", "x + y = 10", "true"},
		{loops, 6, "x = 3;x = 4", "1 = 2", "true"}, {loops, 6, "x = 3;y = 8", "x = 9", "true"}, {loops, 6, "0 = 1", "x = 9", "true"}, {loops, 6, "0 = 0;0 = 0", "x = 9", "false"}, {loops, 6, "x = 3", "0 = 1", "false"}, {loops, 6, "x = 1/2", "y = 2", "true"}, {loops, 6, "x = 1/2", "y = 3", "false"},
		{loops, 0, "x = 1", "y = 9", "true"}, {loops, 0, "x = 0", "y = 9", "false"}, {loops, 0, "x = y - 1", "y = 1", "true"},
		{ramp, 6, "x = 3;y = 6", "z = 6", "false"}, {ramp, 6, "x = 3", "y = 6", "true"}, {ramp, 6, "x = 3", "z = 6", "false"}, {ramp, 6, "x = 1;x = 2", "z = 9", "true"}, {ramp, 6, "x + y + z = 3;z = 0", "x = 1", "true"}, {ramp, 6, "x + y + z = 3;z = 0", "2y = 4", "true"},
		{"vars x; stop;", 1, "", "x = 1", "true"}, {"vars x; stop;", 1, "x = 2", "x = 1", "true"}, {"vars;", 0, "", "0 = 0", "true"}, {"vars;", 0, "0 = 0", "0 = 1", "false"}, {"vars;", 0, "0 = 1", "0 = 2", "true"},
		// At the limit, and one past it.
		{rise, 0, "x = M", "x = M", "true"}, {rise, 0, "x = M;y = x", "y = M", "true"}, {rise, 0, "x = M;y = x + 1", "z = 0", "big"}, {rise, 0, "x = -M;y = x - 1", "z = 0", "big"}, {rise, 0, "x = N;y = x + 2", "y = M", "true"}, {rise, 0, "M x = 1;M y = 1", "x = y", "true"}, {rise, 0, "H x = 1;x = 2 y", "z = 0", "big"},
		// How long the other numbers are is not asked.
		{rise, 0, "x = M", "M x + N y = K", "false"}, {rise, 0, "M x + N y = K", "M x + N y = K", "true"}, {rise, 0, "M x + N y = K", "M x + N y = H", "false"},
		// It is the points that are too big, whatever is asked of them.
		{rise, 0, "M x + z = 0;N y + z = 0", "0 = 0", "big"}, {rise, 0, "M x + z = 0;N y + z = 0", "M x + z = 0", "big"}, {fall, 1, "N y + z = 0", "0 = 0", "big"}, {fall, 1, "N y + z = 0", "0 = 1", "big"},
		// What a part of the rows says is too big, all of them together is not.
		{rise, 0, "M x + z = 0;N y + z = 0;z = 0", "x = y", "true"}, {rise, 0, "z = 0;M x + z = 0;N y + z = 0", "x = y", "true"}, {rise, 0, "M x + z = 0;N y + z = 0;z = 0", "x = 1", "false"}, {rise, 0, "M x + z = 0;N y + z = 0;z = 1;z = 2", "x = 1", "true"}, {rise, 0, "M x + z = 0;N y + z = 0;0 = 1", "x = 1", "true"},
		{fall, 1, "N y + z = 0;x = 0", "y = 0", "true"}, {fall, 1, "x = 0;N y + z = 0", "y = 0", "true"}, {fall, 1, "N y + z = 0;y = 0", "x = 1", "false"}, {fall, 1, "N y + z = 0;M x + z = 1", "x = 1", "true"}, {fall, 1, "x = M;y = x + 1;z = 5", "x = 1", "true"},
		// What is given alone is too big, on the hull it is not.
		{"vars x = 0, y, z;", 0, "M x + z = 0;N y + z = 0", "y = z", "true"}, {"vars x, y, z; z := x; x := y;", 2, "M x + z = 0;N y + z = 0", "big", "refused"}, {"vars x = 0, y = 0, z = 0;", 0, "M x + z = 0;N y + z = 1", "y = 1", "true"}, {"vars x, y; stop;", 1, "x = M;y = x + 1", "y = 0", "true"},
	} {
		is, e, at := loaded(t, x.text).Given(x.point, parts(x.given), spelt(x.equation))
		got := fmt.Sprint(is)
		switch e {
		case api.OK:
		case api.ErrTooBig:
			got = "big"
		default:
			got = "refused"
		}
		if got != x.want || e != api.OK && is || got != "refused" && at != (api.Place{}) {
			t.Errorf("P19.2: %s at %d: given %s: %s: %v, %v, %v; want %s", x.text, x.point, x.given, x.equation, is, e, at, x.want)
		}
	}
}

func TestGivenInOrder(t *testing.T) { // P19.2, R2: the first of given that is refused, the equation, too many, too big
	s := loaded(t, "vars x, y, z;")
	big := parts("M x + z = 0;N y + z = 0")
	many := func(count int, of string) []string { return slices.Repeat([]string{of}, count) }
	for _, x := range []struct {
		given    []string
		equation string
		want     bool
		e        api.Errno
		at       int // the byte
	}{
		{parts("x = 1;y = ;z"), "=", false, api.ErrBadEquation, 4}, {parts("x = 1;  z;y = "), "=", false, api.ErrBadEquation, 3}, {parts("x = 1;x = P;y = "), "=", false, api.ErrTooBig, 4}, {parts("M x = 1/2;y = "), "=", false, api.ErrTooBig, 0},
		{slices.Concat(big, parts("x = y = z")), "0 = 0", false, api.ErrBadEquation, 6}, {slices.Concat(big, parts("x = y = z"), many(99, "x = 1")), "0 = 0", false, api.ErrBadEquation, 6}, {append(many(200, "x = 1"), " x"), "0 = 0", false, api.ErrBadEquation, 2},
		{big, "x + = y", false, api.ErrBadEquation, 4}, {many(65, "x = 1"), "x = 1;", false, api.ErrBadEquation, 5}, {many(65, "x = 1"), "x = P", false, api.ErrTooBig, 4},
		{many(65, "x = 1"), "x = 1", false, api.ErrArg, 0}, {many(1000, "0 = 0"), "0 = 0", false, api.ErrArg, 0}, {slices.Concat(big, many(63, "z = 0")), "0 = 0", false, api.ErrArg, 0}, {slices.Concat(many(63, "z + x = 0"), big), "0 = 0", false, api.ErrArg, 0}, {many(65, "0 = 1"), "0 = 0", false, api.ErrArg, 0},
		{many(64, "x = 1"), "2x = 2", true, api.OK, 0}, {many(64, "x = 1"), "2x = 3", false, api.OK, 0}, {slices.Concat(big, many(62, "z = 0")), "x = y", true, api.OK, 0}, {slices.Concat(big, many(62, "0 = 0")), "x = y", false, api.ErrTooBig, 0}, {many(65, ""), "x = y", false, api.ErrBadEquation, 0},
	} {
		is, e, at := s.Given(0, x.given, spelt(x.equation))
		place := api.Place{}
		if x.e == api.ErrBadEquation || x.at > 0 {
			place = api.Place{Byte: x.at, Glyph: x.at, Line: 1, Column: x.at + 1}
		}
		if is != x.want || e != x.e || at != place {
			t.Errorf("P19.2: %d given (%.40q), %s: %v, %v at %v; want %v, %v at %v", len(x.given), x.given, x.equation, is, e, at, x.want, x.e, place)
		}
	}
}

func TestGivenManyOnAHull(t *testing.T) { // P19.2: those of the hull do not count with what is given, which is more than a span takes
	s := loaded(t, "vars a = 1, b = 2, c = 3, d = 4, e = 5, f = 6, g = 7, h = 8; skip; h := any;")
	for _, p := range []int{0, 1, 2} {
		var given []string
		for i := range api.MaxRows {
			given = append(given, fmt.Sprintf("%d a + %d b + 8 = h + %d", i, i*i, i+2*i*i))
		}
		for _, x := range []struct {
			equation string
			want     bool
		}{{"h = 8", true}, {"g + h = 15", true}, {"h = 7", false}, {"a = b", false}} {
			if is, e, _ := s.Given(p, given, x.equation); is != x.want || e != api.OK {
				t.Errorf("P19.2: at %d: %s: %v, %v", p, x.equation, is, e)
			}
		}
		given[63] = "a = b"
		if is, e, _ := s.Given(p, given, "h = 7"); !is || e != api.OK {
			t.Errorf("P19.2: at %d: no point meets these: %v, %v", p, is, e)
		}
	}
}

func TestGivenLikeTheModel(t *testing.T) { // P19.2: of more rows, and longer ones, that leave no point, one, or more, and are too big now and then
	s := &stream{4}
	count := map[string]int{}
	drawn(t, s, 400, func(text string, held *session.Session, m *model) {
		for range 8 {
			p := s.below(m.g.Points())
			told, _ := held.Equations(p)
			names := namesOf(held)
			var given []string
			for range s.below(6) {
				given = append(given, s.equation(told, names))
				if s.below(8) == 0 {
					given = append(given, spelt(s.pick("M a + b = 1", "N b - a = K", "K a + N c = 0", "H c + M b = a")))
				}
			}
			q := s.equation(told, names)
			if len(given) > 0 && s.below(4) == 0 {
				q = given[s.below(len(given))]
			}
			is, e, at := held.Given(p, given, q)
			want, e2, at2 := m.Given(p, given, q)
			if is != want || e != e2 || at != at2 {
				t.Fatalf("P19.2: %q at %d: given %q: %q: %v, %v, %v; want %v, %v, %v", text, p, given, q, is, e, at, want, e2, at2)
			}
			count[fmt.Sprint(is, " ", e)]++
		}
	})
	if count["true error 0"] < 500 || count["false error 0"] < 500 || count["false error 2"] < 50 || count["false error 50"] < 100 {
		t.Errorf("too few of a kind were drawn: %v", count)
	}
}
