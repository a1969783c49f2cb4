package ratio_test

import (
	"strings"
	"testing"

	"rafter/api"
	"rafter/ratio"
)

const printMinus = "\u2212"

// parses fails the test if Parse(s) is not the fraction want.
func parses(t *testing.T, s, want string) {
	t.Helper()
	if r, e := ratio.Parse(s); e != api.OK || !equal(r, frac(want)) {
		t.Errorf("P3.4: Parse(%.40q) = %v, %v, want %.40s", s, r, e, want)
	}
}

// refused fails the test if Parse(s) does not answer the error want, and nothing beside it.
func refused(t *testing.T, s string, want api.Errno) {
	t.Helper()
	if r, e := ratio.Parse(s); e != want || !none(r) {
		t.Errorf("P3.4: Parse(%.40q) = %v, %v, want %v", s, r, e, want)
	}
}

func TestParse(t *testing.T) { // P3.4
	for s, want := range map[string]string{
		"6/4": "3/2", "3": "3", "0": "0", "0/9": "0", "7/1": "7", "007/0014": "1/2", "000/009": "0", "5/05": "1", "4294967296/18446744073709551616": "1/4294967296", "123456789012345678901234567890/7": "123456789012345678901234567890/7",
	} {
		parses(t, s, want)
		parses(t, "-"+s, "-"+want)
		parses(t, printMinus+s, "-"+want)
	}
}

func TestParseLong(t *testing.T) { // P3.4: at the limits, and one past them
	nines, full := strings.Repeat("9", api.MaxDigits), strings.Repeat("9", api.MaxDigits-1)
	parses(t, nines, nines)
	parses(t, "-"+nines, "-"+nines)
	parses(t, nines+"/3", strings.Repeat("3", api.MaxDigits))
	parses(t, "2/"+nines, "2/"+nines)
	parses(t, full+"/"+nines, full+"/"+nines)
	parses(t, nines+"/"+full, nines+"/"+full)
	parses(t, "-"+full+"/"+full, "-1")
	refused(t, nines+"/"+nines, api.ErrTooBig)    // 2 MaxDigits bytes and the slash
	refused(t, "-"+full+"/"+nines, api.ErrTooBig) // a minus counts, too
	parses(t, printMinus+full[3:]+"/"+nines, "-"+full[3:]+"/"+nines)
	refused(t, printMinus+full[2:]+"/"+nines, api.ErrTooBig) // in bytes, not in runes
}

func TestParseRefuses(t *testing.T) { // P3.4
	for _, s := range []string{
		"", "/", "3/", "/3", "-/3", "-", printMinus, "1/-2", "1/" + printMinus + "2", "1/+2", "+1/2", "--1/2", "1//2", "1/2/3", "1/2/", "x/0", "/0", "1/x", "1 /2", "1/ 2", " 1/2", "1/2 ", "1\u22152", "1\u20442", "1:2", "1.5", "\u0661/2", "1/\u0662", "\xff/1", "1/\xff", "0/-0", "1/0/0", "1/0x",
	} {
		refused(t, s, api.ErrDigit)
	}
	for _, s := range []string{"1/0", "0/0", "-1/0", printMinus + "1/0", "7/000", strings.Repeat("9", api.MaxDigits) + "/0", "1/" + strings.Repeat("0", api.MaxDigits)} {
		refused(t, s, api.ErrDivide)
	}
}

func TestParseOrder(t *testing.T) { // P3.4: which error comes first
	long := strings.Repeat("1", api.MaxDigits+1)
	refused(t, long, api.ErrTooBig)
	refused(t, "-"+long, api.ErrTooBig)
	refused(t, long+"/", api.ErrTooBig)   // the first part's, ahead of the second one's
	refused(t, long+"/0", api.ErrTooBig)  // and of a division by 0
	refused(t, "x/"+long, api.ErrDigit)   // the first part's, though the second one is too long
	refused(t, "/"+long, api.ErrDigit)    // likewise, of no digit
	refused(t, "1/"+long, api.ErrTooBig)  // the second part's
	refused(t, "0/"+long, api.ErrTooBig)  // whatever the first one is
	refused(t, "1/-"+long, api.ErrTooBig) // as limbs.Parse reads it
	refused(t, "1/"+long[1:]+"x", api.ErrTooBig)
	refused(t, "1/"+long[2:]+"x", api.ErrDigit)
	refused(t, strings.Repeat("/", 2*api.MaxDigits), api.ErrDigit)
	refused(t, strings.Repeat("/", 2*api.MaxDigits+1), api.ErrTooBig) // the whole text's, ahead of all
	refused(t, "x"+strings.Repeat("/", 2*api.MaxDigits), api.ErrTooBig)
	refused(t, "1/0"+strings.Repeat("0", 2*api.MaxDigits), api.ErrTooBig)
}

func TestText(t *testing.T) { // P3.4, R6
	for _, x := range []struct {
		r    api.Ratio
		want string
	}{
		{frac("-3/2"), "-3/2"}, {frac("4"), "4"}, {over("8", "2"), "4"}, {over("-6", "4"), "-3/2"}, {api.Ratio{}, "0"}, {over("9", "0"), "0"}, {over("0", "5"), "0"}, {api.Ratio{Num: api.Whole{Neg: true}, Den: []uint32{3}}, "0"}, {over("1", "4294967296"), "1/4294967296"}, {over("-5", "5"), "-1"},
	} {
		if got := ratio.Text(x.r); got != x.want {
			t.Errorf("P3.4: Text(%v) = %s, want %s", x.r, got, x.want)
		}
	}
	for _, r := range some() {
		if got, want := ratio.Text(r), toBig(r).RatString(); got != want {
			t.Errorf("P3.4: Text(%v) = %s, want %s", r, got, want)
		}
	}
}

func TestTextBack(t *testing.T) { // P3.6
	s := &stream{6}
	for n := range 400 {
		r := s.ratio(n % 50)
		back, e := ratio.Parse(ratio.Text(r))
		if e != api.OK || !equal(back, ratio.Trim(r)) {
			t.Fatalf("P3.6: Parse(Text(%v)) = %v, %v", r, back, e)
		}
	}
	long := frac("-" + strings.Repeat("9", api.MaxDigits-2) + "/1" + strings.Repeat("0", api.MaxDigits-1))
	if s := ratio.Text(long); len(s) != 2*api.MaxDigits {
		t.Fatalf("P3.6: a text of %d bytes", len(s))
	}
	if back, e := ratio.Parse(ratio.Text(long)); e != api.OK || !equal(back, long) {
		t.Error("P3.6: Parse of Text, of 2 MaxDigits bytes: ", e)
	}
	longer := frac("-" + strings.Repeat("9", api.MaxDigits-1) + "/1" + strings.Repeat("0", api.MaxDigits-1))
	if back, e := ratio.Parse(ratio.Text(longer)); e != api.ErrTooBig || !none(back) {
		t.Error("P3.4: Parse of Text, of one byte more: ", e)
	}
}
