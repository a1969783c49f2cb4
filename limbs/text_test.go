package limbs_test

import (
	"math/big"
	"strings"
	"testing"

	"rafter/api"
	"rafter/limbs"
)

func TestParse(t *testing.T) { // P1.7
	for _, s := range []string{
		"0", "00", "7", "007", "000000000", "0000000000000000001", "10", "4294967295", "4294967296", "18446744073709551615", "18446744073709551616",
		"999999999", "1000000000", "1000000001", "999999999999999999", "1000000000000000000", "123456789000000000987654321",
		strings.Repeat("0", api.MaxDigits), strings.Repeat("9", api.MaxDigits), strings.Repeat("0", api.MaxDigits-1) + "1",
		strings.Repeat("1234567890", api.MaxDigits/10), "1" + strings.Repeat("0", api.MaxDigits-1),
	} {
		want, _ := new(big.Int).SetString(s, 10)
		got, e := limbs.Parse(s)
		if e != api.OK {
			t.Fatalf("P1.7: Parse(%.40q): %v", s, e)
		}
		value(t, "P1.7: Parse "+s[:min(len(s), 40)], got, want)
	}
	for n := 1; n <= 200; n++ {
		s := strings.Repeat("9081726354", 20)[:n]
		want, _ := new(big.Int).SetString(s, 10)
		got, _ := limbs.Parse(s)
		value(t, "P1.7: Parse "+s, got, want)
	}
}

func TestParseNoDigits(t *testing.T) { // P1.7
	for _, s := range []string{
		"", " ", "a", "1a", "a1", "1a1", "-", "-1", "+1", "−1", " 1", "1 ", "1 1", "\t1", "1\n", "1_000", "1,000", "1.", "1e3", "0x1f", "0b1",
		"/", ":", "1/", "1:", "\x00", "1\x00", "\xff", "1\xff", "\xff1", "\xc3", "1\xe2\x82", "\xed\xa0\x80", "\xf4\x90\x80\x80", "\ufffd", "1\ufffd",
		"٣", "3٣", "０", "१", "İ", "²", "₁", "①", "𝟏", "\U00010031", "123456789x", "x123456789", "12345678901234567890\u0660",
		strings.Repeat("1", api.MaxDigits-1) + "x", "x" + strings.Repeat("1", api.MaxDigits-1), strings.Repeat("٣", api.MaxDigits/2),
		strings.Repeat("\xff", api.MaxDigits), strings.Repeat("0", api.MaxDigits-1) + " ",
	} {
		if got, e := limbs.Parse(s); e != api.ErrDigit || len(got) != 0 {
			t.Errorf("P1.7: Parse(%.40q) = %v, %v; want ErrDigit", s, got, e)
		}
	}
	for b := range 256 {
		if b >= '0' && b <= '9' {
			continue
		}
		for _, s := range []string{string([]byte{byte(b)}), string([]byte{'1', byte(b)}), string([]byte{byte(b), '1'})} {
			if got, e := limbs.Parse(s); e != api.ErrDigit || len(got) != 0 {
				t.Errorf("P1.7: Parse(%q) = %v, %v; want ErrDigit", s, got, e)
			}
		}
	}
}

func TestParseTooLong(t *testing.T) { // P1.7: bytes count, not glyphs, and the length is asked first
	for _, s := range []string{
		strings.Repeat("1", api.MaxDigits+1), strings.Repeat("0", api.MaxDigits+1), strings.Repeat("x", api.MaxDigits+1), strings.Repeat("\xff", api.MaxDigits+1),
		strings.Repeat("٣", api.MaxDigits/2) + "1", "-" + strings.Repeat("1", api.MaxDigits), strings.Repeat("7", 1<<20),
	} {
		if got, e := limbs.Parse(s); e != api.ErrTooBig || len(got) != 0 {
			t.Errorf("P1.7: Parse of %d bytes %.10q = %v, %v; want ErrTooBig", len(s), s, got, e)
		}
	}
}

func TestText(t *testing.T) { // P1.7
	for _, x := range []struct {
		a    nat
		want string
	}{{nil, "0"}, {nat{}, "0"}, {nat{0, 0}, "0"}, {nat{7}, "7"}, {nat{0, 1}, "4294967296"}, {nat{0, 1, 0}, "4294967296"}, {nat{top}, "4294967295"}, {nat{1000000000}, "1000000000"}, {nat{999999999}, "999999999"}} {
		if got := limbs.Text(x.a); got != x.want {
			t.Errorf("P1.7: Text(%v) = %s, want %s", x.a, got, x.want)
		}
	}
	for _, a := range append(below(4, edges), full(40), full(1000)) {
		if got, want := limbs.Text(a), toBig(a).String(); got != want {
			t.Fatalf("P1.7: Text(%v) = %s, want %s", a, got, want)
		}
	}
	power := nat{1}
	for range 400 {
		less, _ := limbs.Sub(power, nat{1})
		for _, a := range []nat{less, power, limbs.Add(power, nat{1})} {
			if got, want := limbs.Text(a), toBig(a).String(); got != want {
				t.Fatalf("P1.7: Text(%v) = %s, want %s", a, got, want)
			}
		}
		power = limbs.Mul(power, nat{10})
	}
}

func TestTextPastDigits(t *testing.T) { // P1.7: MaxDigits binds what is read, not what is written
	a, _ := limbs.Parse("1" + strings.Repeat("0", api.MaxDigits-1))
	if got := limbs.Text(limbs.Mul(a, nat{10})); got != "1"+strings.Repeat("0", api.MaxDigits) {
		t.Errorf("P1.7: Text of MaxDigits + 1 digits: %d bytes, %.20s", len(got), got)
	}
}
