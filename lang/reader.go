package lang

import (
	"slices"
	"strings"
	"unicode/utf8"

	"rafter/api"
	"rafter/glyph"
	"rafter/whole"
)

// degree is the glyph that no name of a program has.
const degree rune = '\u00b0'

// isWord says whether a name is a word of the language.
func isWord(name string) bool {
	switch name {
	case "vars", "any", "skip", "stop", "mark", "choose", "or", "loop", "if", "else", "while":
		return true
	}
	return false
}

// reader goes through a text's tokens from left to right. Each of its parts goes past what it reads; where no text goes on so it throws a fault at the token at which it stands. It never goes past the end, which is the last token.
type reader struct {
	tokens []api.Token
	next   int
	vars   []string
	marks  []string
	open   int // blocks and brackets
}

// read answers what a reader makes of a text over these variables; or what Scan or the reader refuses.
func read[T any](text string, vars []string, goal func(*reader) T) (out T, e api.Errno, at api.Place) {
	tokens, e, at := glyph.Scan(text)
	if e != api.OK {
		return out, e, at
	}
	r := &reader{tokens: tokens, vars: vars}
	out, f := caught(func() T { return goal(r) })
	return out, f.e, f.at
}

// token answers the token at which the reader stands.
func (r *reader) token() api.Token { return r.tokens[r.next] }

// fail throws a fault at the token at which the reader stands.
func (r *reader) fail(e api.Errno) { panic(fault{e, r.token().At}) }

// stands says whether the reader stands at this word or sign. Only a name has the text of a word, and only a sign that of one.
func (r *reader) stands(text string) bool { return r.token().Text == text }

// take reads this word or sign, if it is there, and says whether it was.
func (r *reader) take(text string) bool {
	if !r.stands(text) {
		return false
	}
	r.next++
	return true
}

// must reads this word or sign.
func (r *reader) must(text string) {
	if !r.take(text) {
		r.fail(api.ErrSyntax)
	}
}

// opens reads what opens a block or brackets.
func (r *reader) opens(sign string) {
	switch {
	case !r.stands(sign):
		r.fail(api.ErrSyntax)
	case r.open == api.MaxNest:
		r.fail(api.ErrDeep)
	}
	r.open++
	r.next++
}

// closes reads what closes the block or the brackets opened last.
func (r *reader) closes(sign string) {
	r.must(sign)
	r.open--
}

// name answers the name at which the reader stands, and does not go past it: what else is wrong with it is told at its place.
func (r *reader) name() string {
	t := r.token()
	if t.Kind != api.TokenName || isWord(t.Text) {
		r.fail(api.ErrSyntax)
	}
	return t.Text
}

// fresh answers the name at which the reader stands, one that the program gives and has not given yet, and does not go past it.
func (r *reader) fresh(given []string) string {
	name := r.name()
	switch {
	case utf8.RuneCountInString(name) >= api.MaxName, strings.ContainsRune(name, degree):
		r.fail(api.ErrName)
	case slices.Contains(given, name):
		r.fail(api.ErrTwice)
	}
	return name
}

// end reads the end, and does not go past it.
func (r *reader) end() {
	if r.token().Kind != api.TokenEnd {
		r.fail(api.ErrSyntax)
	}
}

// sum reads an expression.
func (r *reader) sum() Expression { return r.chain(r.product, "+", "-") }

// product reads what a sum is made of.
func (r *reader) product() Expression { return r.chain(r.unary, "*", "/", "%") }

// chain reads parts with one of these signs between each two, and puts them together from the left.
func (r *reader) chain(part func() Expression, signs ...string) Expression {
	out := part()
	for sign := r.token().Text; slices.Contains(signs, sign); sign = r.token().Text {
		r.next++
		out = Operation{Sign: sign, Left: out, Right: part()}
	}
	return out
}

// unary reads what a product is made of.
func (r *reader) unary() Expression {
	if r.take("-") {
		return Negation{r.unary()}
	}
	return r.atom()
}

// atom reads a number, a variable, or an expression in brackets.
func (r *reader) atom() Expression {
	switch t := r.token(); {
	case t.Kind == api.TokenNumber:
		x, _ := whole.Parse(t.Text)
		r.next++
		return Number{x}
	case r.stands("("):
		r.opens("(")
		out := r.sum()
		r.closes(")")
		return out
	}
	return r.variable()
}

// variable reads the name of a variable.
func (r *reader) variable() Variable {
	name := r.name()
	i := slices.Index(r.vars, name)
	if i < 0 {
		r.fail(api.ErrUnknown)
	}
	r.next++
	return Variable{name, i}
}
