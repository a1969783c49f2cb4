package whole_test

import (
	"strings"
	"testing"

	"rafter/api"
	"rafter/whole"
)

const printMinus = "\u2212"

// parses fails the test if Parse(s) is not the number want.
func parses(t *testing.T, s, want string) {
	t.Helper()
	x, e := whole.Parse(s)
	if e != api.OK || !equal(x, num(want)) {
		t.Errorf("P2.5: Parse(%.40q) = %v, %v, want %.40s", s, x, e, want)
	}
}

// refused fails the test if Parse(s) does not answer the error want, and 0.
func refused(t *testing.T, s string, want api.Errno) {
	t.Helper()
	if x, e := whole.Parse(s); e != want || !equal(x, api.Whole{}) {
		t.Errorf("P2.5: Parse(%.40q) = %v, %v, want %v", s, x, e, want)
	}
}

func TestParse(t *testing.T) { // P2.5
	for s, want := range map[string]string{
		"0": "0", "7": "7", "007": "7", "12": "12", "4294967296": "4294967296", "340282366920938463463374607431768211455": "340282366920938463463374607431768211455",
	} {
		parses(t, s, want)
		parses(t, "-"+s, "-"+want)
		parses(t, printMinus+s, "-"+want)
	}
	nines := strings.Repeat("9", api.MaxDigits)
	parses(t, nines, nines)
	parses(t, "-"+nines, "-"+nines)
	parses(t, printMinus+nines, "-"+nines)
	parses(t, "-"+strings.Repeat("0", api.MaxDigits), "0")
	parses(t, "-0", "0")
	parses(t, printMinus+"0", "0")
}

func TestParseRefuses(t *testing.T) { // P2.5
	for _, s := range []string{
		"", "-", printMinus, "--1", "-" + printMinus + "1", printMinus + "-1", printMinus + printMinus + "1", "+1", "-+1", " 1", "- 1", "1 ", "1-", "-1-", "1-2", "a", "-a", "1a", "0x1",
		"\u20131", "\u20141", "\u20101", "\u00ad1", "\uff0d1", // other dashes and hyphens are no minus
		"\u0661", "-\u0661", "\xe2\x88", "\xe2\x88\x921\xff", "\xff", "-\xff", "\x00", "\x921", "\u2212\x921",
	} {
		refused(t, s, api.ErrDigit)
	}
	long := strings.Repeat("1", api.MaxDigits+1)
	refused(t, long, api.ErrTooBig)
	refused(t, "-"+long, api.ErrTooBig)
	refused(t, printMinus+long, api.ErrTooBig)
	refused(t, "--"+long[1:], api.ErrTooBig)
	refused(t, "-"+strings.Repeat("x", api.MaxDigits+1), api.ErrTooBig)
	refused(t, "+"+long[1:], api.ErrTooBig)
	refused(t, "-"+strings.Repeat("x", api.MaxDigits), api.ErrDigit)
	refused(t, "--"+long[2:], api.ErrDigit)
}

func TestText(t *testing.T) { // P2.5, R6
	for _, x := range some() {
		if got, want := whole.Text(x), toBig(x).String(); got != want {
			t.Errorf("P2.5: Text(%v) = %s, want %s", x, got, want)
		}
	}
}

func TestTextBack(t *testing.T) { // P2.8
	s := &stream{5}
	for n := range 400 {
		x := s.upTo(n % 60)
		back, e := whole.Parse(whole.Text(x))
		if e != api.OK || !equal(back, whole.Trim(x)) {
			t.Fatalf("P2.8: Parse(Text(%v)) = %v, %v", x, back, e)
		}
	}
	for _, s := range []string{strings.Repeat("8", api.MaxDigits), "-" + strings.Repeat("8", api.MaxDigits)} {
		if back, e := whole.Parse(whole.Text(num(s))); e != api.OK || !equal(back, num(s)) {
			t.Error("P2.8: Parse of Text, MaxDigits digits: ", e)
		}
	}
	if x, e := whole.Parse(whole.Text(num("-1" + strings.Repeat("0", api.MaxDigits)))); e != api.ErrTooBig || !equal(x, api.Whole{}) {
		t.Error("P2.5: Parse of Text, one digit more: ", e)
	}
}
