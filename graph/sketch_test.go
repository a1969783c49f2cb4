package graph_test

import (
	"slices"
	"strconv"
	"strings"

	"rafter/api"
)

// sketch is a statement that was drawn. Variables stand in its expressions as `$0`, `$1`, .., so that they can have any names.
type sketch struct {
	kind        int // of its line
	v           int // its variable
	mark        int // the how many-th mark it gives
	left, right []string
	sign        string // between the sides of a condition
	blocks      [][]*sketch
	at          api.Place // where lay wrote it
}

// program is a program that was drawn.
type program struct {
	begins []string // "", or what a variable begins with
	body   []*sketch
	marks  int
}

// names are those of the variables and of the marks of a program.
type names struct{ vars, marks []string }

// of answers what is written for a token: of `$0` the name of the first variable.
func (n names) of(token string) string {
	if token[0] != '$' {
		return token
	}
	v, _ := strconv.Atoi(token[1:])
	return n.vars[v]
}

// text answers tokens as they can be read.
func (n names) text(l []string) string {
	var out []string
	for _, token := range l {
		out = append(out, n.of(token))
	}
	return strings.Join(out, " ")
}

// plainNames are names for any program that is drawn.
func plainNames(p *program) names {
	n := names{vars: strings.Split("abcdefgh", "")[:len(p.begins)]}
	for i := range p.marks {
		n.marks = append(n.marks, "m"+strconv.Itoa(i))
	}
	return n
}

// otherNames are other ones: marks and variables have some in common, and the order of the letters is another one.
func otherNames(p *program) names {
	n := names{vars: strings.Fields("\u03b2 m7 \u03b1\u2081 vars_ zz z anyone \u0416\u2032")[:len(p.begins)]}
	for i := range p.marks {
		n.marks = append(n.marks, []string{"z", "\u03b2", "q"}[i%3]+strings.Repeat("\u2032", i/3))
	}
	return n
}

// expr draws the tokens of an expression over so many variables that is so deep at most. Few products are of variables, so that many have a form.
func (s *stream) expr(deep, vars int) []string {
	if deep == 0 || s.below(5) == 0 {
		number := s.pick("0", "1", "2", "3", "7", "4294967296", "18446744073709551615")
		if vars == 0 || s.below(2) == 0 {
			return []string{number}
		}
		return []string{"$" + strconv.Itoa(s.below(vars))}
	}
	part := func(vars int) []string {
		x := s.expr(deep-1, vars)
		if len(x) > 1 {
			return slices.Concat([]string{"("}, x, []string{")"})
		}
		return x
	}
	sign := s.pick("+", "-", "*", "/", "%", "+", "-", "*", "negated")
	switch {
	case sign == "negated":
		return append([]string{"-"}, part(vars)...)
	case strings.Contains("*/%", sign) && s.below(3) > 0:
		return slices.Concat(part(0), []string{sign}, part(vars*s.below(2)))
	}
	return slices.Concat(part(vars), []string{sign}, part(vars))
}

// program draws a program with so many statements in a row at most, nested so deep at most.
func (s *stream) program(long, deep int) *program {
	p := &program{}
	for range s.below(api.MaxVars + 1) {
		p.begins = append(p.begins, s.pick("", "", "0", "7", "-3", "4294967296", most))
	}
	p.body = s.row(p, long, deep)
	return p
}

// row draws a row of statements.
func (s *stream) row(p *program, long, deep int) []*sketch {
	var out []*sketch
	for range s.below(long + 1) {
		out = append(out, s.statement(p, long, deep))
	}
	return out
}

// statement draws a statement.
func (s *stream) statement(p *program, long, deep int) *sketch {
	vars := len(p.begins)
	plain := []int{api.LineSkip, api.LineStop, api.LineMark, api.LineSet, api.LineAny, api.LineSet, api.LineSet}
	if vars == 0 {
		plain = plain[:3]
	}
	nested := []int{api.LineChoose, api.LineLoop, api.LineIf, api.LineWhile}
	k := &sketch{kind: plain[s.below(len(plain))], left: s.expr(3, vars), right: s.expr(2, vars), sign: s.pick("=", "!=")}
	if deep > 0 && s.below(2) == 0 {
		k.kind = nested[s.below(len(nested))]
	}
	blocks := 0
	switch k.kind {
	case api.LineSet, api.LineAny:
		k.v = s.below(vars)
	case api.LineMark:
		k.mark = p.marks
		p.marks++
	case api.LineChoose:
		blocks = 1 + s.below(4)
	case api.LineIf:
		blocks = 1 + s.below(2)
	case api.LineLoop, api.LineWhile:
		blocks = 1
	}
	for range blocks {
		k.blocks = append(k.blocks, s.row(p, long, deep-1))
	}
	return k
}

// layer writes a program; loose: with further blanks, comments, and other signs of the same meaning.
type layer struct {
	*stream
	names
	loose bool
	text  strings.Builder
}

// lay writes a program, and answers the text; the statements know then where they stand.
func (s *stream) lay(p *program, n names, loose bool) string {
	l := &layer{stream: s, names: n, loose: loose}
	l.write("vars")
	for i, number := range p.begins {
		if i > 0 {
			l.write(",")
		}
		l.write(n.vars[i])
		if number != "" {
			l.write("=", number)
		}
	}
	l.write(";")
	l.row(p.body)
	text := l.text.String()
	fixPlaces(p.body, text)
	return text
}

// fixPlaces makes the places, of which lay has noted the bytes, whole.
func fixPlaces(l []*sketch, text string) {
	for _, k := range l {
		k.at = placeOf(text, k.at.Byte)
		for _, b := range k.blocks {
			fixPlaces(b, text)
		}
	}
}

// write writes tokens with something between each two, and answers where the first one stands.
func (l *layer) write(tokens ...string) int {
	first := -1
	for _, token := range tokens {
		if l.loose {
			l.text.WriteString(l.pick(" ", "\n", "\t", "\u3000", " # skip; } \u00e9\n", "\r\n "))
		} else {
			l.text.WriteString(" ")
		}
		if first < 0 {
			first = l.text.Len()
		}
		l.text.WriteString(l.sign(l.of(token)))
	}
	return first
}

// sign answers a token, or another sign that says the same.
func (l *layer) sign(token string) string {
	if !l.loose {
		return token
	}
	switch token {
	case "-":
		return l.pick("-", "\u2212")
	case "*":
		return l.pick("*", "\u00b7", "\u00d7")
	case "/":
		return l.pick("/", "\u00f7")
	case ":=":
		return l.pick(":=", "\u2254")
	case "!=":
		return l.pick("!=", "\u2260")
	}
	return token
}

// row writes a row of statements.
func (l *layer) row(row []*sketch) {
	for _, k := range row {
		k.at.Byte = l.write(l.head(k)...)
		if len(k.blocks) == 0 {
			l.write(";")
		}
		for i, b := range k.blocks {
			switch {
			case i > 0 && k.kind == api.LineIf:
				l.write("else")
			case i > 0:
				l.write("or")
			}
			l.write("{")
			l.row(b)
			l.write("}")
		}
	}
}

// head answers the tokens of a statement, up to its first block or its end.
func (l *layer) head(k *sketch) []string {
	switch k.kind {
	case api.LineSet:
		return append([]string{l.vars[k.v], ":="}, k.left...)
	case api.LineAny:
		return []string{l.vars[k.v], ":=", "any"}
	case api.LineSkip:
		return []string{"skip"}
	case api.LineStop:
		return []string{"stop"}
	case api.LineMark:
		return []string{"mark", l.marks[k.mark]}
	case api.LineChoose:
		return []string{"choose"}
	case api.LineLoop:
		return []string{"loop"}
	case api.LineIf:
		return slices.Concat([]string{"if"}, k.left, []string{k.sign}, k.right)
	}
	return slices.Concat([]string{"while"}, k.left, []string{k.sign}, k.right)
}
