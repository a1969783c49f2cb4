package guard_test

import (
	"math/big"
	"slices"
	"strings"

	"rafter/affine"
	"rafter/api"
	"rafter/glyph"
	"rafter/lang"
)

// tree is an expression that was drawn: a leaf, a minus ahead of one part, or a sign between two.
type tree struct {
	leaf  string // a number, or a name
	sign  string
	parts []*tree
}

// firm says how firmly x holds together: a sum 1, a product 2, all else 3.
func (x *tree) firm() int {
	switch {
	case len(x.parts) < 2:
		return 3
	case strings.Contains("+-", x.sign):
		return 1
	}
	return 2
}

// text answers x as it can be written; further says at which parts brackets stand that need not.
func (x *tree) text(further func() bool) string {
	var l []string
	for i, p := range x.parts {
		must := p.firm() < x.firm() || i == 1 && p.firm() == x.firm() && p.firm() < 3
		l = append(l, p.text(further))
		if must || further() {
			l[i] = "(" + l[i] + ")"
		}
	}
	switch len(l) {
	case 0:
		return x.leaf
	case 1:
		return "-" + l[0]
	}
	return l[0] + x.sign + l[1]
}

// short answers x with those brackets alone that must be.
func (x *tree) short() string { return x.text(func() bool { return false }) }

// turned answers x with the sides of some of its sums exchanged.
func (s *stream) turned(x *tree) *tree {
	out := &tree{leaf: x.leaf, sign: x.sign}
	for _, p := range x.parts {
		out.parts = append(out.parts, s.turned(p))
	}
	if len(x.parts) == 2 && x.sign == "+" && s.below(2) == 0 {
		slices.Reverse(out.parts)
	}
	return out
}

// form answers the form of x, word for word as P9.1 does; nil, if it has none.
func (x *tree) form(vars []string) []*big.Int {
	out := make([]*big.Int, len(vars)+1)
	for i := range out {
		out[i] = new(big.Int)
	}
	var l [][]*big.Int
	for _, p := range x.parts {
		f := p.form(vars)
		if f == nil {
			return nil
		}
		l = append(l, f)
	}
	if len(l) == 0 {
		if v := slices.Index(vars, x.leaf); v >= 0 {
			out[v].SetInt64(1)
		} else {
			out[len(vars)].SetString(x.leaf, 10)
		}
		return out
	}
	if len(l) == 2 && strings.Contains("*/%", x.sign) {
		return multiplied(x.sign, l[0], l[1])
	}
	for i := range out {
		switch {
		case len(l) == 1:
			out[i].Neg(l[0][i])
		case x.sign == "+":
			out[i].Add(l[0][i], l[1][i])
		default:
			out[i].Sub(l[0][i], l[1][i])
		}
	}
	return out
}

// constant says whether a form has no factor other than 0.
func constant(f []*big.Int) bool {
	return !slices.ContainsFunc(f[:len(f)-1], func(x *big.Int) bool { return x.Sign() != 0 })
}

// multiplied answers the form of a product, a quotient or a rest of two that have one; nil, if it has none.
func multiplied(sign string, f, g []*big.Int) []*big.Int {
	n := len(f) - 1
	if sign == "*" && !constant(g) {
		f, g = g, f
	}
	if !constant(g) || sign != "*" && (!constant(f) || g[n].Sign() == 0) {
		return nil
	}
	var out []*big.Int
	for _, x := range f {
		y := new(big.Int)
		switch sign {
		case "*":
			y.Mul(x, g[n])
		case "/":
			y.Div(x, g[n])
		default:
			y.Mod(x, g[n])
		}
		out = append(out, y)
	}
	return out
}

// rowOf answers the canonical row that says that two forms are equal; nil, if one of them is none, or the row is too long.
func rowOf(f, g []*big.Int) []*big.Int {
	if f == nil || g == nil {
		return nil
	}
	common, sign := new(big.Int), 0
	var out []*big.Int
	for i := range f {
		x := new(big.Int).Sub(f[i], g[i])
		if i == len(f)-1 {
			x.Neg(x)
		}
		if sign == 0 {
			sign = x.Sign()
		}
		common.GCD(nil, nil, common, new(big.Int).Abs(x))
		out = append(out, x)
	}
	for _, x := range out {
		if sign != 0 {
			x.Quo(x, common).Mul(x, big.NewInt(int64(sign)))
		}
		if x.BitLen() > 32*api.MaxLimbs {
			return nil
		}
	}
	return out
}

// tree draws an expression over these variables that is so deep at most. Few products and quotients are of variables, so that many have a form.
func (s *stream) tree(deep int, vars []string) *tree {
	if deep == 0 || s.below(6) == 0 {
		number := s.pick("0", "1", "2", "3", "7", "10", "255", "4294967296", "18446744073709551615")
		if s.below(30) == 0 {
			number = most.String()
		}
		if len(vars) == 0 || s.below(2) == 0 {
			return &tree{leaf: number}
		}
		return &tree{leaf: s.pick(vars...)}
	}
	sign := s.pick("+", "-", "*", "/", "%", "negated")
	if sign == "negated" {
		return &tree{sign: "-", parts: []*tree{s.tree(deep-1, vars)}}
	}
	left, right := vars, vars
	if strings.Contains("/%", sign) && s.below(3) > 0 {
		left, right = nil, nil
	} else if sign == "*" && s.below(3) > 0 {
		left = nil
	}
	x := &tree{sign: sign, parts: []*tree{s.tree(deep-1, left), s.tree(deep-1, right)}}
	if sign == "*" && s.below(2) == 0 {
		slices.Reverse(x.parts)
	}
	return x
}

// exprVerdict answers what lang.Expr refuses.
func exprVerdict(text string, vars []string) (api.Errno, api.Place) {
	_, e, at := lang.Expr(text, vars)
	return e, at
}

// condVerdict answers what must be refused of a condition. Its first `=` or `!=` parts it; each side is what lang.Expr asks of it, but that the left one ends with that sign: where Expr misses something at the end, no condition goes on with it.
func condVerdict(text string, vars []string) (api.Errno, api.Place) {
	if affine.Names(vars) != api.OK {
		return api.ErrArg, api.Place{}
	}
	tokens, e, at := glyph.Scan(text)
	if e != api.OK {
		return e, at
	}
	i := slices.IndexFunc(tokens, func(k api.Token) bool { return k.Text == "=" || k.Text == "!=" })
	if i < 0 {
		if e, at := exprVerdict(text, vars); e != api.OK {
			return e, at
		}
		return api.ErrSyntax, tokens[len(tokens)-1].At
	}
	sign := tokens[i].At.Byte
	if e, at := exprVerdict(text[:sign], vars); e != api.OK {
		return e, placeOf(text, at.Byte)
	}
	behind := sign + len("=")
	for _, two := range []string{"!=", "\u2260"} {
		if strings.HasPrefix(text[sign:], two) {
			behind = sign + len(two)
		}
	}
	if e, at := exprVerdict(text[behind:], vars); e != api.OK {
		return e, placeOf(text, behind+at.Byte)
	}
	return api.OK, api.Place{}
}

// spoilt answers a text of which a piece is gone, doubled, or another one.
func (s *stream) spoilt(text string) string {
	l := strings.SplitAfter(text, "")
	i := s.below(len(l) + 1)
	more := s.pick("", " ", "x", "y", "w", "any", "3", "+", "-", "*", "/", "%", "(", ")", "((((((((((((((((", "=", "!=", "\u2260", "\u2212", ":=", ":", ";", "{", "\n", "#", "\u00e9", "\xff", "abcdefghijklmnopq", most.String()+"0")
	return strings.Join(l[:i], "") + more + strings.Join(l[min(len(l), i+s.below(2)):], "")
}
