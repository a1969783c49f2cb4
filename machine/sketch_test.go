package machine_test

import (
	"math/big"
	"strings"
	"testing"

	"rafter/api"
	"rafter/graph"
	"rafter/guard"
	"rafter/lang"
)

// letters are the variables' names.
const letters = "abcdefgh"

// part is an expression that was drawn: a number, a variable, or a sign (`~`: a negation) with its parts.
type part struct {
	sign        string
	number      *big.Int
	v           int
	left, right *part
}

// text answers the expression, each of its parts in brackets.
func (x *part) text() string {
	switch {
	case x.sign == "~":
		return "-(" + x.left.text() + ")"
	case x.sign != "":
		return "(" + x.left.text() + ")" + x.sign + "(" + x.right.text() + ")"
	case x.number != nil:
		return x.number.String()
	}
	return letters[x.v : x.v+1]
}

// sketch is a statement that was drawn.
type sketch struct {
	kind        int // of its line
	v           int // its variable
	form        bool
	left, right *part
	equal       bool // whether the sign between the sides of a condition is `=`
	blocks      [][]*sketch
}

// program is a program that was drawn.
type program struct {
	begins []*big.Int // nil: any
	body   []*sketch
}

// vars answers the variables' names.
func (p *program) vars() []string { return strings.Split(letters, "")[:len(p.begins)] }

// anys answers how many variables begin with any number.
func (p *program) anys() int {
	out := 0
	for _, b := range p.begins {
		if b == nil {
			out++
		}
	}
	return out
}

// expr draws an expression over so many variables that is so deep at most. Few products are of variables, so that many have a form.
func (s *stream) expr(deep, vars int) *part {
	if deep == 0 || s.below(4) == 0 {
		if vars > 0 && s.below(3) > 0 {
			return &part{v: s.below(vars)}
		}
		n, _ := new(big.Int).SetString(s.pick("0", "1", "1", "2", "3", "7", "4294967296", "18446744073709551615", most), 10)
		return &part{number: n}
	}
	sign := s.pick("+", "-", "*", "/", "%", "+", "-", "*", "~")
	x := &part{sign: sign, left: s.expr(deep-1, vars)}
	switch {
	case sign == "~":
		return x
	case strings.Contains("*/%", sign) && s.below(2) > 0:
		x.left = s.expr(deep-1, 0)
	}
	x.right = s.expr(deep-1, vars)
	return x
}

// growing draws what a variable may become that soon is too wide, where a loop comes to it again and again.
func (s *stream) growing(v int) *part {
	n, _ := new(big.Int).SetString(most, 10)
	x, long := &part{v: v}, &part{number: n}
	if s.below(2) == 0 {
		return &part{sign: "+", left: &part{sign: "*", left: x, right: long}, right: long}
	}
	sum := &part{sign: "+", left: x, right: long}
	return &part{sign: "*", left: sum, right: sum}
}

// program draws a program with so many statements in a row at most, nested so deep at most; pure: with pure ones alone.
func (s *stream) program(long, deep int, pure bool) *program {
	p := &program{begins: make([]*big.Int, s.below(api.MaxVars+1))}
	for i := range p.begins {
		if n, ok := new(big.Int).SetString(s.pick("any", "any", "0", "1", "7", "-3", "4294967296", "-"+most), 10); ok {
			p.begins[i] = n
		}
	}
	p.body = s.row(p, long, deep, pure)
	if s.below(2) == 0 { // so that many runs go far
		round := &sketch{kind: api.LineLoop, blocks: [][]*sketch{p.body}}
		if !pure && s.below(2) == 0 {
			round.kind, round.left, round.right = api.LineWhile, &part{number: big.NewInt(1)}, &part{number: big.NewInt(2)}
		}
		p.body = append([]*sketch{round}, s.row(p, long, 0, pure)...)
	}
	return p
}

// row draws a row of statements.
func (s *stream) row(p *program, long, deep int, pure bool) []*sketch {
	var out []*sketch
	for range s.below(long + 1) {
		out = append(out, s.statement(p, long, deep, pure))
	}
	return out
}

// statement draws a statement. A `stop` is seldom: it ends every run that comes to it.
func (s *stream) statement(p *program, long, deep int, pure bool) *sketch {
	vars := len(p.begins)
	k := &sketch{kind: []int{api.LineSkip, api.LineMark, api.LineSet, api.LineSet, api.LineSet, api.LineSet, api.LineAny}[s.below(7)], equal: s.below(2) == 0}
	if s.below(20) == 0 {
		k.kind = api.LineStop
	}
	if vars == 0 && (k.kind == api.LineSet || k.kind == api.LineAny) {
		k.kind = api.LineSkip
	}
	if deep > 0 && s.below(2) == 0 {
		k.kind = []int{api.LineChoose, api.LineLoop, api.LineIf, api.LineWhile}[s.below(4)]
		if pure {
			k.kind = []int{api.LineChoose, api.LineLoop}[s.below(2)]
		}
	}
	switch k.kind {
	case api.LineSet:
		s.assignment(p, k, pure)
	case api.LineAny:
		k.v = s.below(vars)
	case api.LineIf, api.LineWhile:
		k.left, k.right = s.expr(3, vars), s.expr(2, vars)
	}
	for range s.count(k.kind) {
		k.blocks = append(k.blocks, s.row(p, long, deep-1, pure))
	}
	return k
}

// assignment draws the variable and the expression of one.
func (s *stream) assignment(p *program, k *sketch, pure bool) {
	vars := len(p.begins)
	k.v = s.below(vars)
	k.left = s.expr(3, vars)
	if s.below(4) == 0 {
		k.left = s.growing(k.v)
	}
	_, k.form, _, _ = guard.Affine(k.left.text(), p.vars())
	if pure && !k.form {
		k.left = &part{sign: "*", left: &part{number: big.NewInt(int64(s.below(9)))}, right: &part{v: s.below(vars)}}
		k.form = true
	}
}

// count draws how many blocks a statement of this kind has.
func (s *stream) count(kind int) int {
	switch kind {
	case api.LineChoose:
		return 1 + s.below(5)
	case api.LineIf:
		return 1 + s.below(2)
	case api.LineLoop, api.LineWhile:
		return 1
	}
	return 0
}

// text answers a program as it can be read.
func (p *program) text() string {
	var out strings.Builder
	out.WriteString("vars ")
	for i, b := range p.begins {
		if i > 0 {
			out.WriteString(", ")
		}
		out.WriteString(letters[i : i+1])
		if b != nil {
			out.WriteString(" = " + b.String())
		}
	}
	out.WriteString("; ")
	write(&out, p.body)
	return out.String()
}

// write writes a row of statements.
func write(out *strings.Builder, l []*sketch) {
	for _, k := range l {
		out.WriteString(head(k, strings.Count(out.String(), "mark")))
		if len(k.blocks) == 0 {
			out.WriteString("; ")
		}
		for i, b := range k.blocks {
			switch {
			case i > 0 && k.kind == api.LineIf:
				out.WriteString("else ")
			case i > 0:
				out.WriteString("or ")
			}
			out.WriteString("{ ")
			write(out, b)
			out.WriteString("} ")
		}
	}
}

// head answers a statement up to its first block or its end, behind so many marks.
func head(k *sketch, marks int) string {
	sign := "!="
	if k.equal {
		sign = "="
	}
	switch k.kind {
	case api.LineSet:
		return letters[k.v:k.v+1] + " := " + k.left.text()
	case api.LineAny:
		return letters[k.v:k.v+1] + " := any"
	case api.LineSkip:
		return "skip"
	case api.LineStop:
		return "stop"
	case api.LineMark:
		return "mark m" + big.NewInt(int64(marks)).String()
	case api.LineChoose:
		return "choose "
	case api.LineLoop:
		return "loop "
	case api.LineIf:
		return "if " + k.left.text() + sign + k.right.text() + " "
	}
	return "while " + k.left.text() + sign + k.right.text() + " "
}

// drawn draws programs that have a graph, every third one pure, and hands each one on.
func drawn(t *testing.T, s *stream, count int, do func(p *program, text string, g *graph.Graph)) {
	t.Helper()
	taken := 0
	for n := range count {
		p := s.program(2+n%4, n%4, n%3 == 0)
		text := p.text()
		if len(text) > api.MaxText {
			continue
		}
		q, e, at := lang.Parse(text)
		if e != api.OK {
			t.Fatalf("%q: %v at %v", text, e, at)
		}
		g, e := graph.Of(q)
		if e != api.OK {
			continue
		}
		taken++
		do(p, text, g)
	}
	if taken < count/2 {
		t.Errorf("too few were drawn: %d of %d", taken, count)
	}
}
