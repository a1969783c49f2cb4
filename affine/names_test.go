package affine_test

import (
	"strings"
	"testing"

	"rafter/affine"
	"rafter/api"
)

func TestNames(t *testing.T) { // P5.1
	sixteen := strings.Fields("a b c d e f g h i j k l m n o p")
	for _, l := range [][]string{nil, {}, xy, few, sixteen, {"x", "X"}, {"x", "x1", "x_", "x\u00b0", "x\u2032", "x\u2081"}, {"\u0391", "A"}, {"any", "vars", "if"}, {"abcdefghijklmnop"}, {strings.Repeat("\u03b1", 16)}} {
		if e := affine.Names(l); e != api.OK {
			t.Errorf("P5.1: %q: %v", l, e)
		}
	}
}

func TestNamesRefused(t *testing.T) { // P5.1
	seventeen := strings.Fields("a b c d e f g h i j k l m n o p q")
	for _, l := range [][]string{
		seventeen, append(seventeen, seventeen...), make([]string, 17), // too many
		{""}, {"x", ""}, {"1"}, {"x", "1x"}, {"x "}, {" x"}, {"x#"}, {"x y"}, {"_x"}, {"\u2081"}, {"-x"}, {"\u00e9"}, {"x\xff"}, {"x", "y", "="}, // no names
		{"abcdefghijklmnopq"}, {strings.Repeat("\u03b1", 17)}, {strings.Repeat("x", 5000)},
		{"x", "x"}, {"x", "y", "x"}, {"\u03b1", "a", "\u03b1"}, append(seventeen[1:16:16], "p"), // twice
	} {
		if e := affine.Names(l); e != api.ErrArg {
			t.Errorf("P5.1: %.20q: %v", l, e)
		}
	}
}
