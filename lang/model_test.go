package lang_test

import (
	"slices"
	"strings"

	"rafter/affine"
	"rafter/api"
	"rafter/glyph"
)

// grammar is the chapter's, a line for each way on: what may be left out and what may come again has a symbol of its own. In capitals: NUMBER, END, and a NAME by what it is for.
const grammar = `
program vars decls ; stmts END
alone expr END
test cond END
decls
decls decl decls2
decls2
decls2 , decl decls2
decl DECLARED begin
begin
begin = minus NUMBER
minus
minus -
stmts
stmts stmt stmts
stmt ASSIGNED := any ;
stmt ASSIGNED := expr ;
stmt skip ;
stmt stop ;
stmt mark MARKED ;
stmt choose block ors
stmt loop block
stmt if cond block elses
stmt while cond block
ors
ors or block ors
elses
elses else block
cond expr = expr
cond expr != expr
block { stmts }
expr prod prods
prods
prods + prod prods
prods - prod prods
prod unary unaries
unaries
unaries * unary unaries
unaries / unary unaries
unaries % unary unaries
unary - unary
unary atom
atom NUMBER
atom USED
atom ( expr )
`

// rules answers the ways on of each symbol of the grammar.
func rules() map[string][]string {
	out := map[string][]string{}
	for _, line := range strings.Split(strings.TrimSpace(grammar), "\n") {
		symbol, way, _ := strings.Cut(line, " ")
		out[symbol] = append(out[symbol], way)
	}
	return out
}

// fits says whether a token is what the grammar's symbol asks for.
func fits(symbol string, token api.Token) bool {
	switch symbol {
	case "NUMBER":
		return token.Kind == api.TokenNumber
	case "END":
		return token.Kind == api.TokenEnd
	case "DECLARED", "ASSIGNED", "MARKED", "USED":
		return token.Kind == api.TokenName && !slices.Contains(words, token.Text)
	}
	return token.Text == symbol
}

// ways are all that may still come: each one is the symbols of the grammar that must follow, with a blank between.
type ways map[string]bool

// step answers what may come behind a token, and for what the token may stand. No rule begins with its own symbol, so going into them ends.
func (w ways) step(rule map[string][]string, token api.Token) (ways, []string) {
	next, roles := ways{}, []string{}
	var enter func(way string)
	enter = func(way string) {
		symbol, rest, _ := strings.Cut(way, " ")
		if into, ok := rule[symbol]; ok {
			for _, more := range into {
				enter(strings.TrimSpace(more + " " + rest))
			}
		} else if way != "" && fits(symbol, token) {
			next[rest] = true
			roles = append(roles, symbol)
		}
	}
	for way := range w {
		enter(way)
	}
	return next, roles
}

// judge is what P8.3 asks of tokens, one behind the other.
type judge struct {
	vars, marks []string
	open        int
}

// fault answers what is wrong with a token that stands for one of these roles.
func (j *judge) fault(token api.Token, roles []string) api.Errno {
	is := func(role string) bool { return slices.Contains(roles, role) }
	declared, marked := is("DECLARED"), is("MARKED")
	switch {
	case len(roles) == 0:
		return api.ErrSyntax
	case (declared || marked) && (len([]rune(token.Text)) > api.MaxName-1 || strings.Contains(token.Text, "\u00b0")):
		return api.ErrName
	case declared && slices.Contains(j.vars, token.Text), marked && slices.Contains(j.marks, token.Text):
		return api.ErrTwice
	case declared && len(j.vars) == api.MaxVars:
		return api.ErrTooBig
	case (is("ASSIGNED") || is("USED")) && !slices.Contains(j.vars, token.Text):
		return api.ErrUnknown
	case (is("{") || is("(")) && j.open == api.MaxNest:
		return api.ErrDeep
	}
	if declared {
		j.vars = append(j.vars, token.Text)
	}
	if marked {
		j.marks = append(j.marks, token.Text)
	}
	if is("{") || is("(") {
		j.open++
	}
	if is("}") || is(")") {
		j.open--
	}
	return api.OK
}

// verdict answers what P8.3 refuses of a text that should be that symbol of the grammar, over these variables to begin with.
func verdict(symbol, text string, vars []string) (api.Errno, api.Place) {
	tokens, e, at := glyph.Scan(text)
	if e != api.OK {
		return e, at
	}
	rule := rules()
	j := &judge{vars: slices.Clone(vars)}
	w := ways{symbol: true}
	for _, token := range tokens {
		next, roles := w.step(rule, token)
		if e := j.fault(token, roles); e != api.OK {
			return e, token.At
		}
		w = next
	}
	return api.OK, api.Place{}
}

// verdictExpr answers what P8.7 refuses.
func verdictExpr(text string, vars []string) (api.Errno, api.Place) {
	if affine.Names(vars) != api.OK {
		return api.ErrArg, api.Place{}
	}
	return verdict("alone", text, vars)
}
