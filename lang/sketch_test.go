package lang_test

import (
	"math/big"
	"strconv"
	"strings"

	"rafter/api"
)

// tree is an expression that was drawn: a leaf, a minus ahead of one part, or a sign between two.
type tree struct {
	leaf  string // a number without noughts ahead, or a name
	sign  string
	parts []*tree
}

// between says whether x is one of these signs between two parts.
func (x *tree) between(signs string) bool {
	return len(x.parts) == 2 && strings.Contains(signs, x.sign)
}

// boxed says whether part i of x must stand in brackets, word for word as P8.6 does.
func (x *tree) boxed(i int) bool {
	sum, product := x.parts[i].between("+-"), x.parts[i].between("*/%")
	negation, right := len(x.parts) == 1, len(x.parts) == 2 && i == 1
	return sum && (right && x.between("+-") || x.between("*/%") || negation) || product && (right && x.between("*/%") || negation)
}

// short answers x as it must be written.
func (x *tree) short() string {
	var l []string
	for i, p := range x.parts {
		l = append(l, p.short())
		if x.boxed(i) {
			l[i] = "(" + l[i] + ")"
		}
	}
	switch len(l) {
	case 0:
		return x.leaf
	case 1:
		return "-" + l[0]
	}
	return l[0] + " " + x.sign + " " + l[1]
}

// value answers the value of x, or the first error on the way from the left.
func (x *tree) value(at map[string]*big.Int) (*big.Int, api.Errno) {
	var l []*big.Int
	for _, p := range x.parts {
		v, e := p.value(at)
		if e != api.OK {
			return nil, e
		}
		l = append(l, v)
	}
	out := new(big.Int)
	switch {
	case len(l) == 1:
		out.Neg(l[0])
	case len(l) == 0 && at[x.leaf] != nil:
		out.Set(at[x.leaf])
	case len(l) == 0:
		out.SetString(x.leaf, 10)
	case x.sign == "+":
		out.Add(l[0], l[1])
	case x.sign == "-":
		out.Sub(l[0], l[1])
	case x.sign == "*":
		out.Mul(l[0], l[1])
	case l[1].Sign() == 0:
		return nil, api.ErrDivide
	case x.sign == "/":
		out.Div(l[0], l[1])
	case x.sign == "%":
		out.Mod(l[0], l[1])
	}
	if out.BitLen() > 32*api.MaxWide {
		return nil, api.ErrTooBig
	}
	return out, api.OK
}

// tree draws an expression over these variables that is so deep at most.
func (s *stream) tree(deep int, vars []string) *tree {
	if deep == 0 || s.below(5) == 0 {
		number := s.pick("0", "1", "2", "3", "7", "10", "255", "4294967296", "18446744073709551615")
		if s.below(40) == 0 {
			number = power(32*api.MaxLimbs, -1).String()
		}
		if len(vars) == 0 {
			return &tree{leaf: number}
		}
		return &tree{leaf: s.pick(number, s.pick(vars...), s.pick(vars...))}
	}
	sign := s.pick("+", "-", "*", "/", "%", "negated")
	if sign == "negated" {
		return &tree{sign: "-", parts: []*tree{s.tree(deep-1, vars)}}
	}
	return &tree{sign: sign, parts: []*tree{s.tree(deep-1, vars), s.tree(deep-1, vars)}}
}

// tokens answers the tokens of x, with all brackets that must be, now and then with further ones, and with noughts ahead of numbers.
func (s *stream) tokens(x *tree) []string {
	var l [][]string
	for i, p := range x.parts {
		part := s.tokens(p)
		if x.boxed(i) {
			part = inBrackets(part)
		}
		l = append(l, part)
	}
	var out []string
	switch len(l) {
	case 0:
		out = []string{x.leaf}
		if x.leaf[0] <= '9' {
			out[0] = s.pick("", "", "0", "00") + x.leaf
		}
	case 1:
		out = append([]string{"-"}, l[0]...)
	case 2:
		out = append(append(l[0], x.sign), l[1]...)
	}
	if s.below(6) == 0 {
		return inBrackets(out)
	}
	return out
}

func inBrackets(l []string) []string { return append(append([]string{"("}, l...), ")") }

// sketch is a statement that was drawn.
type sketch struct {
	kind        int    // of its line
	name        string // of its variable or its mark
	left, right *tree  // the expression, or the two sides of the condition
	sign        string // between the sides
	blocks      [][]*sketch
}

// program is a program that was drawn.
type program struct {
	begins []api.Begin
	body   []*sketch
	marks  int
}

// vars answers the names of its variables.
func (p *program) vars() []string {
	var out []string
	for _, b := range p.begins {
		out = append(out, b.Name)
	}
	return out
}

// short draws a program whose text, as lay writes it, is not too long.
func (s *stream) short(tight bool) (p *program, text string, heads []api.Place) {
	for p == nil || len(text) > api.MaxText {
		p = s.program()
		text, heads = s.lay(s.words(p), tight)
	}
	return p, text, heads
}

// program draws a program.
func (s *stream) program() *program {
	p := &program{}
	for i := range s.below(api.MaxVars + 1) {
		b := api.Begin{Name: s.pick("x", "\u03b1\u2081", "mark_", "\u0416_\u03c9\u2032aaaaaaaaaa", "anyone") + strconv.Itoa(i), Any: s.below(2) == 0}
		if !b.Any {
			b.Value = whole(s.pick("", "-") + s.pick("0", "3", "12", "4294967296", power(1024, -1).String()))
		}
		p.begins = append(p.begins, b)
	}
	p.body = s.sketches(p, 3)
	return p
}

// sketches draws statements that are nested so deep at most.
func (s *stream) sketches(p *program, deep int) []*sketch {
	var out []*sketch
	for range s.below(4) {
		out = append(out, s.sketch(p, deep))
	}
	return out
}

// sketch draws a statement.
func (s *stream) sketch(p *program, deep int) *sketch {
	vars := p.vars()
	plain := []int{api.LineSkip, api.LineStop, api.LineMark, api.LineSet, api.LineAny, api.LineSet}
	if len(vars) == 0 {
		plain = plain[:3]
	}
	nested := []int{api.LineChoose, api.LineLoop, api.LineIf, api.LineWhile}
	k := &sketch{kind: plain[s.below(len(plain))], left: s.tree(3, vars), right: s.tree(2, vars), sign: s.pick("=", "!=")}
	if deep > 0 && s.below(2) == 0 {
		k.kind = nested[s.below(len(nested))]
	}
	more := 0
	switch k.kind {
	case api.LineMark:
		p.marks++
		k.name = s.pick("m", "x", "\u03a9\u2083", "orr") + strconv.Itoa(p.marks)
	case api.LineSet, api.LineAny:
		k.name = s.pick(vars...)
	case api.LineChoose:
		more = s.below(4)
	case api.LineIf:
		more = s.below(2)
	}
	if k.kind >= api.LineChoose {
		for range 1 + more {
			k.blocks = append(k.blocks, s.sketches(p, deep-1))
		}
	}
	return k
}

// head answers the text of the line of k, and the kind and the text of that of its further blocks.
func (k *sketch) head() (first string, kind int, later string) {
	switch k.kind {
	case api.LineSet:
		return k.name + " := " + k.left.short(), 0, ""
	case api.LineAny:
		return k.name + " := any", 0, ""
	case api.LineMark:
		return "mark " + k.name, 0, ""
	case api.LineChoose:
		return "choose", api.LineOr, "or"
	case api.LineIf:
		return "if " + k.left.short() + " " + k.sign + " " + k.right.short(), api.LineElse, "else"
	case api.LineWhile:
		return "while " + k.left.short() + " " + k.sign + " " + k.right.short(), 0, ""
	}
	return map[int]string{api.LineSkip: "skip", api.LineStop: "stop", api.LineLoop: "loop"}[k.kind], 0, ""
}

// varsText answers the text of the program's first line.
func (p *program) varsText() string {
	var l []string
	for _, b := range p.begins {
		if b.Any {
			l = append(l, b.Name)
		} else {
			l = append(l, b.Name+" = "+toBig(b.Value).String())
		}
	}
	return strings.TrimSuffix("vars "+strings.Join(l, ", "), " ")
}

// lines answers the lines that p must have, without their places.
func (p *program) lines() []api.Line {
	return append([]api.Line{{Kind: api.LineVars, Text: p.varsText()}}, linesOf(p.body, 0)...)
}

func linesOf(l []*sketch, depth int) []api.Line {
	var out []api.Line
	for _, k := range l {
		kind := k.kind
		text, laterKind, later := k.head()
		out = append(out, api.Line{Kind: kind, Depth: depth, Text: text})
		for i, b := range k.blocks {
			if i > 0 {
				out = append(out, api.Line{Kind: laterKind, Depth: depth, Text: later})
			}
			out = append(out, linesOf(b, depth+1)...)
		}
	}
	return out
}

// print answers p as it must be printed.
func (p *program) print() string { return p.varsText() + ";\n" + printed(p.body, "") }

func printed(l []*sketch, blanks string) string {
	out := ""
	for _, k := range l {
		text, _, later := k.head()
		if len(k.blocks) == 0 {
			out += blanks + text + ";\n"
			continue
		}
		var parts []string
		for _, b := range k.blocks {
			parts = append(parts, printed(b, blanks+"  "))
		}
		out += blanks + text + " {\n" + strings.Join(parts, blanks+"} "+later+" {\n") + blanks + "}\n"
	}
	return out
}

// word is a token's text; head: a line begins with it.
type word struct {
	text string
	head bool
}

func plainWords(l ...string) []word {
	var out []word
	for _, text := range l {
		out = append(out, word{text: text})
	}
	return out
}

// words answers the tokens of p.
func (s *stream) words(p *program) []word {
	out := []word{{"vars", true}}
	for i, b := range p.begins {
		if i > 0 {
			out = append(out, word{text: ","})
		}
		out = append(out, word{text: b.Name})
		if !b.Any {
			number := toBig(b.Value).String()
			digits := strings.TrimPrefix(number, "-")
			out = append(out, word{text: "="})
			if digits != number || digits == "0" && s.below(2) == 0 {
				out = append(out, word{text: "-"})
			}
			out = append(out, word{text: s.pick("", "0", "000") + digits})
		}
	}
	return append(append(out, word{text: ";"}), s.wordsOf(p.body)...)
}

func (s *stream) wordsOf(l []*sketch) []word {
	var out []word
	for _, k := range l {
		out = append(out, s.headWords(k)...)
		if len(k.blocks) == 0 {
			out = append(out, word{text: ";"})
		}
		for i, b := range k.blocks {
			if _, _, later := k.head(); i > 0 {
				out = append(out, word{later, true})
			}
			out = append(append(append(out, word{text: "{"}), s.wordsOf(b)...), word{text: "}"})
		}
	}
	return out
}

func (s *stream) headWords(k *sketch) []word {
	switch k.kind {
	case api.LineSet:
		return append([]word{{k.name, true}, {text: ":="}}, plainWords(s.tokens(k.left)...)...)
	case api.LineAny:
		return []word{{k.name, true}, {text: ":="}, {text: "any"}}
	case api.LineMark:
		return []word{{"mark", true}, {text: k.name}}
	}
	text, _, _ := k.head()
	first, _, cond := strings.Cut(text, " ")
	out := []word{{first, true}}
	if cond {
		out = append(append(out, plainWords(s.tokens(k.left)...)...), word{text: k.sign})
		out = append(out, plainWords(s.tokens(k.right)...)...)
	}
	return out
}

// gap answers what stands between two tokens: tight as little as may be, else all that may stand there.
func (s *stream) gap(ahead, behind string, tight bool) string {
	letter := func(c byte) bool {
		return c >= 0x80 || c >= '0' && c <= '9' || c >= 'A' && c <= 'Z' || c >= 'a' && c <= 'z' || c == '_'
	}
	must := ahead != "" && letter(ahead[len(ahead)-1]) && letter(behind[0])
	switch {
	case tight && !must:
		return ""
	case tight:
		return " "
	}
	return s.pick(" ", " ", "  ", "\n", "\t", "\r\n", "\u00a0", "\u3000", " # \u00e9 := vars : < {\n", "#\n")
}

// lay writes tokens, and answers the text and the places of those with which a line begins. Not tight, it takes other signs of the same meaning, too.
func (s *stream) lay(l []word, tight bool) (string, []api.Place) {
	var out strings.Builder
	var heads []int
	last := ""
	for _, w := range l {
		out.WriteString(s.gap(last, w.text, tight))
		if w.head {
			heads = append(heads, out.Len())
		}
		last = w.text
		if !tight {
			out.WriteString(s.otherSign(w.text))
		} else {
			out.WriteString(w.text)
		}
	}
	var places []api.Place
	for _, bytes := range heads {
		places = append(places, placeOf(out.String(), bytes))
	}
	return out.String(), places
}

// otherSign answers a token as it is, or with another sign of P4.10.
func (s *stream) otherSign(text string) string {
	switch text {
	case "-":
		return s.pick("-", "\u2212")
	case "*":
		return s.pick("*", "\u00b7", "\u00d7")
	case "/":
		return s.pick("/", "\u00f7")
	case ":=":
		return s.pick(":=", "\u2254")
	case "!=":
		return s.pick("!=", "\u2260")
	}
	return text
}
