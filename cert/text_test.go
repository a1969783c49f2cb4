package cert_test

import (
	"fmt"
	"math/big"
	"regexp"
	"strings"
	"testing"

	"rafter/api"
	"rafter/cert"
	"rafter/solver"
)

// lines answers the patterns of a certificate's lines.
func lines() (row, sample *regexp.Regexp) {
	const number = `(?: (?:0|-?[1-9][0-9]*))`
	return regexp.MustCompile(`\A(?:row` + number + `*)\z`), regexp.MustCompile(`\A(?:sample` + number + `{4,})\z`)
}

// written answers a certificate as a text, by the library alone.
func written(c []api.CertPoint) string {
	var out strings.Builder
	for _, x := range c {
		out.WriteString("point\n")
		for _, row := range x.Rows {
			out.WriteString(strings.TrimRight("row "+say(row), " ") + "\n")
		}
		for _, s := range x.Samples {
			out.WriteString(strings.TrimRight(fmt.Sprintf("sample %d %d %d %d ", s.Point, s.Index, s.Edge, s.Value)+say(s.State), " ") + "\n")
		}
	}
	return out.String()
}

// fits says whether a line is one of a certificate's behind the one ahead of it (of the first line: none).
func fits(line, ahead string) bool {
	row, sample := lines()
	switch {
	case line == "point":
		return true
	case row.MatchString(line):
		return ahead == "point" || strings.HasPrefix(ahead, "row")
	case !sample.MatchString(line) || ahead == "":
		return false
	}
	for _, word := range strings.Fields(line)[1:5] {
		if x, ok := new(big.Int).SetString(word, 10); !ok || !x.IsInt64() {
			return false
		}
	}
	return true
}

// badLine answers the number of the first line that is none of a certificate's, 0 if there is none.
func badLine(text string) int {
	all, ahead := strings.SplitAfter(text, "\n"), ""
	for i, line := range all {
		if i == len(all)-1 && line == "" {
			break
		}
		short, ended := strings.CutSuffix(line, "\n")
		if !ended || !fits(short, ahead) {
			return i + 1
		}
		ahead = short
	}
	return 0
}

// readsLike fails the test, if Parse does not answer what the patterns say. It answers the number of the bad line.
func readsLike(t testing.TB, text string) int {
	t.Helper()
	c, code, line := cert.Parse(text)
	if len(text) > api.MaxScript {
		if code != api.ErrTooBig || line != 0 || len(c) != 0 {
			t.Fatalf("P15.4: %d bytes: %v at %d", len(text), code, line)
		}
		return 0
	}
	want := badLine(text)
	switch {
	case want > 0:
		if code != api.ErrCert || line != want || len(c) != 0 {
			t.Fatalf("P15.4: %.900q: %v at %d; want ErrCert at %d", text, code, line, want)
		}
	case code != api.OK || line != 0:
		t.Fatalf("P15.4: %.900q: %v at %d", text, code, line)
	case written(c) != text || cert.Print(c) != text:
		t.Fatalf("P15.4, P15.8: %.900q is read as %.900q", text, written(c))
	}
	return want
}

func TestPrint(t *testing.T) { // P15.3: whatever the lists are
	one, long := wholeOf(big.NewInt(1)), wholeOf(power(40000, -1))
	for _, x := range []struct {
		c    []api.CertPoint
		want string
	}{
		{nil, ""},
		{[]api.CertPoint{}, ""},
		{[]api.CertPoint{{}, {}}, "point\npoint\n"},
		{[]api.CertPoint{{Rows: [][]api.Whole{{}, nil, {one}}}}, "point\nrow\nrow\nrow 1\n"},
		{[]api.CertPoint{{Samples: []api.Sample{{}}}, {Rows: [][]api.Whole{{one, one}}}}, "point\nsample 0 0 0 0\npoint\nrow 1 1\n"},
		{[]api.CertPoint{{Samples: []api.Sample{{Point: -1, Index: -1 << 63, Edge: 1<<63 - 1, Value: 7, State: []api.Whole{{Neg: true, Mag: []uint32{0, 1, 0}}, {Neg: true, Mag: []uint32{0}}}}}}}, "point\nsample -1 -9223372036854775808 9223372036854775807 7 -4294967296 0\n"},
		{[]api.CertPoint{{Rows: [][]api.Whole{{long}}}}, "point\nrow " + power(40000, -1).String() + "\n"},
	} {
		if got := cert.Print(x.c); got != x.want {
			t.Errorf("P15.3: %.200q; want %.200q", got, x.want)
		}
	}
	held(t, &stream{7}, 300, func(text string, r *solver.Result) {
		if c := cert.Of(r); cert.Print(c) != written(c) {
			t.Fatalf("P15.3: %q: %.900q; want %.900q", text, cert.Print(c), written(c))
		}
	})
}

func TestParseRefuses(t *testing.T) { // P15.4: ErrCert at a line
	for text, line := range map[string]int{
		"row 1\n": 1, "row\n": 1, "sample 0 0 0 0\n": 1, // ahead of the first point
		"point": 1, "point\nrow 1": 2, "point\npoint\nsample 0 0 0 0 1": 3, // without U+000A
		"\n": 1, "point\n\n": 2, "\npoint\n": 1, "point\n\npoint\n": 2, // lines without a word
		"point \n": 1, " point\n": 1, "point\n row 1\n": 2, "point\nrow \n": 2, "point\nrow  1\n": 2, "point\nrow 1 \n": 2, "point\nrow 1  2\n": 2, "point\nsample  0 0 0 0\n": 2, "point\nsample 0 0 0 0 \n": 2, // blanks
		"point\nrow\t1\n": 2, "point\nrow 1\r\n": 2, "point\r\n": 1, "point\nrow\u00a01\n": 2, "point\nrow 1\u20282\n": 2, "point\vrow\n": 1, // no blanks
		"points\n": 1, "Point\n": 1, "poin\n": 1, "point 1\n": 1, "point 0\n": 1, "point\nrows 1\n": 2, "point\nrow1\n": 2, "point\nSample 0 0 0 0\n": 2, "1\n": 1, "point\n-1\n": 2, "ok\n": 1, // other words
		"point\nrow x\n": 2, "point\nrow 1 x\n": 2, "point\nrow 1x\n": 2, "point\nrow row\n": 2, "point\nrow 1 point\n": 2,
		"point\nrow 01\n": 2, "point\nrow 00\n": 2, "point\nrow -0\n": 2, "point\nrow -01\n": 2, "point\nrow +1\n": 2, "point\nrow --1\n": 2, "point\nrow -\n": 2, "point\nrow 1-\n": 2, "point\nrow 1/2\n": 2, "point\nrow 1.0\n": 2, "point\nrow 1e3\n": 2, "point\nrow 0x1\n": 2, "point\nrow 1_0\n": 2, // numbers
		"point\nrow −1\n": 2, "point\nrow ٣\n": 2, "point\nrow １\n": 2, "point\nrow 1\x00\n": 2, "point\nrow \xff\n": 2, "point\nrow 1\xff\n": 2, "\xff\n": 1, "point\xff\n": 1, "\ufeffpoint\n": 1,
		"point\nsample\n": 2, "point\nsample 0\n": 2, "point\nsample 0 0 0\n": 2, "point\nsample 0 0 0 00\n": 2, "point\nsample -0 0 0 0\n": 2, "point\nsample 0 0 0 0 01\n": 2,
		"point\nsample 9223372036854775808 0 0 0\n": 2, "point\nsample 0 9223372036854775808 0 0\n": 2, "point\nsample 0 0 -9223372036854775809 0\n": 2, "point\nsample 0 0 0 18446744073709551616\n": 2,
		"point\nsample 0 0 0 0\nrow 1\n": 3, "point\nrow 1\nsample 0 0 0 0\nrow 1\npoint\n": 4, "point\npoint\nsample 0 0 0 0\nsample 0 0 0 0\nrow\n": 5,
		"point\nrow x\nrow y\n": 2, "point\npoint \nrow 01\n": 2, // the first one
		"point\nrow " + strings.Repeat("7", api.MaxDigits+1) + "x\n": 2, "point\nrow 0" + strings.Repeat("7", 2*api.MaxDigits) + "\n": 2, "point\nsample 0 0 0 " + strings.Repeat("7", 2*api.MaxDigits) + "\n": 2,
	} {
		if got := readsLike(t, text); got != line {
			t.Errorf("P15.4: %.200q: the patterns say %d; want %d", text, got, line)
		}
	}
}

func TestParseTakes(t *testing.T) { // P15.4, P15.8: numbers of any length, lists of any length
	for _, text := range []string{
		"", "point\n", "point\npoint\npoint\n", "point\nrow\nrow\n", "point\nsample 0 0 0 0\n", "point\nsample -1 -1 -1 -1\npoint\nrow 0 -5 0\n",
		"point\nsample 9223372036854775807 -9223372036854775808 0 -1 5\n",
		"point\nrow " + strings.Repeat(" 1", 4000)[1:] + "\n", strings.Repeat("point\n", 5000), "point\n" + strings.Repeat("row 0\n", 5000),
	} {
		if readsLike(t, text) != 0 {
			t.Errorf("P15.4: %.200q is refused", text)
		}
	}
	for _, digits := range []int{1, api.MaxDigits - 2, api.MaxDigits - 1, api.MaxDigits, api.MaxDigits + 1, 2*api.MaxDigits - 2, 2*api.MaxDigits - 1, 2 * api.MaxDigits, 2*api.MaxDigits + 1, 5*api.MaxDigits + 77, api.MaxScript - 12, api.MaxScript - 11} {
		for _, number := range []string{strings.Repeat("9", digits), "1" + strings.Repeat("0", digits-1), "-" + strings.Repeat("123456789", digits)[:max(1, digits-1)]} {
			if readsLike(t, "point\nrow "+number+"\n") != 0 || readsLike(t, "point\nsample 0 0 0 0 "+number+" 1\n") != 0 {
				t.Errorf("P15.4: a number of %d digits is refused", digits)
			}
		}
	}
}

func TestParseTooBig(t *testing.T) { // P15.4: bytes are counted, whatever they are
	for _, fill := range []string{"x", "point\n", "\n", "é", "row\n"} {
		text := strings.Repeat(fill, 2*api.MaxScript)
		for _, length := range []int{api.MaxScript - 1, api.MaxScript, api.MaxScript + 1, api.MaxScript + 2, 2 * api.MaxScript} {
			readsLike(t, text[:length])
		}
	}
	full := "point\nrow " + strings.Repeat("7", api.MaxScript-11) + "\n"
	if c, code, line := cert.Parse(full); code != api.OK || line != 0 || cert.Print(c) != full {
		t.Errorf("P15.4: %d bytes: %v at %d", len(full), code, line)
	}
	if c, code, line := cert.Parse(full + "x"); code != api.ErrTooBig || line != 0 || len(c) != 0 {
		t.Errorf("P15.4: %d bytes: %v at %d", len(full)+1, code, line)
	}
}

// scratched answers a text with something changed: bytes, words or lines.
func (s *stream) scratched(text string) string {
	for range 1 + s.below(2) {
		at := s.below(len(text) + 1)
		rest := text[at:]
		switch s.below(6) {
		case 0:
			rest = s.pick(" ", "\n", "0", "1", "-", "row", "point\n", "sample", " 9223372036854775808", "\xff", "−", "row 1\n", "sample 0 0 0 0\n") + rest
		case 1:
			rest = rest[min(1, len(rest)):]
		case 2:
			rest = s.pick("0", " ", "x", "\n", "7") + rest[min(1, len(rest)):]
		case 3:
			_, rest, _ = strings.Cut(rest, " ")
		case 4:
			_, rest, _ = strings.Cut(rest, "\n")
			text, at = text[:strings.LastIndex(text[:at], "\n")+1], strings.LastIndex(text[:at], "\n")+1
		default:
			rest = ""
		}
		text = text[:at] + rest
	}
	return text
}

func TestScratched(t *testing.T) { // P15.4, P15.8
	s := &stream{8}
	read, refused, first := 0, 0, 0
	held(t, s, 300, func(text string, r *solver.Result) {
		plain := cert.Print(cert.Of(r))
		if len(plain) > 3000 {
			return
		}
		for range 20 {
			switch line := readsLike(t, s.scratched(plain)); {
			case line == 0:
				read++
			case line == 1:
				first++
			default:
				refused++
			}
		}
	})
	if read < 500 || refused < 1000 || first < 50 {
		t.Errorf("too few of a kind were drawn: %d %d %d", read, refused, first)
	}
}

func TestReadAgain(t *testing.T) { // P15.8: what is found, and whatever else is plain data
	s := &stream{9}
	count := 0
	held(t, s, 300, func(text string, r *solver.Result) {
		g := r.Graph()
		for _, c := range [][]api.CertPoint{cert.Of(r), s.wandered(g, true), s.spoilt(g, cert.Of(r))} {
			plain := cert.Print(c)
			if len(plain) > api.MaxScript {
				continue
			}
			again, code, line := cert.Parse(plain)
			if code != api.OK || line != 0 || written(again) != written(c) {
				t.Fatalf("P15.8: %.900q: %v at %d", plain, code, line)
			}
			a, at := cert.Check(g, c)
			checks(t, text+" read again", g, again, a, at)
			count++
		}
	})
	if count < 200 {
		t.Errorf("too few were read: %d", count)
	}
}
