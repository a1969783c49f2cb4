// Package sketch draws programs, as texts, for the tests of the layers that search them. The program itself does not call it.
package sketch

import (
	"strconv"
	"strings"
)

// Letters are the names of the variables, one each.
const Letters = "abcdefgh"

// Kind says what programs are drawn.
type Kind struct {
	Vars int  // how many variables, one for each of Letters at most
	Long int  // how many statements in a row at most
	Deep int  // how deep they are nested at most
	Pure bool // whether the program is pure
	Wide bool // whether there are long numbers now and then: M, N and K, which who asks puts numbers for
	Rich bool // whether there is `else`, many expressions say less than they seem to, and many conditions come out one way
}

// sketch is a program that is being drawn.
type sketch struct {
	Kind
	strings.Builder
	next  func() uint32
	marks int
}

// Program draws a program of a kind. It asks next for what hangs on chance, so that who asks can have the same one again.
func Program(next func() uint32, kind Kind) string {
	k := &sketch{Kind: kind, next: next}
	k.vars()
	k.row(k.Long, k.Deep)
	if k.below(3) == 0 {
		k.WriteString("loop { ")
		k.row(k.Long, k.Deep-1)
		k.WriteString("} ")
	}
	return k.String()
}

// below draws a number from 0 to n - 1.
func (k *sketch) below(n int) int { return int(k.next() % uint32(n)) }

// pick draws one of these.
func (k *sketch) pick(of ...string) string { return of[k.below(len(of))] }

// vars draws what the variables begin with.
func (k *sketch) vars() {
	k.WriteString("vars")
	for v := range k.Vars {
		k.WriteString([]string{" ", ", "}[min(v, 1)] + Letters[v:v+1])
		if k.below(3) > 0 {
			k.WriteString(" = " + k.signed())
		}
	}
	k.WriteString("; ")
}

// number draws a number, most of them small.
func (k *sketch) number() string {
	if k.Wide && k.below(6) == 0 {
		return k.pick("M", "N", "K", "4294967296")
	}
	return k.pick("0", "1", "1", "2", "3", "5")
}

// signed draws a number that may be below 0.
func (k *sketch) signed() string { return k.pick("", "", "-") + k.number() }

// name draws a variable.
func (k *sketch) name() string {
	v := k.below(k.Vars)
	return Letters[v : v+1]
}

// form draws an expression that has a form.
func (k *sketch) form() string {
	out := k.signed()
	for range k.below(3) {
		out += k.pick(" + ", " - ") + k.pick("", k.number()+" * ") + k.name()
	}
	if k.below(4) == 0 {
		return k.name()
	}
	return out
}

// expr draws an expression; it has a form, if the program is pure.
func (k *sketch) expr() string {
	if k.Rich {
		switch k.below(14) {
		case 0:
			name := k.name()
			return k.signed() + " + " + name + " - " + name
		case 1:
			return k.signed() + " * (" + k.number() + " - " + k.number() + ") + " + k.name()
		case 2:
			return k.pick("1", "-7") + k.pick(" / ", " % ") + k.pick("2", "3")
		}
	}
	if k.Pure || k.below(3) > 0 {
		return k.form()
	}
	return "(" + k.form() + ")" + k.pick(" * ", " / ", " % ") + "(" + k.form() + ")"
}

// cond draws a condition.
func (k *sketch) cond() string {
	if !k.Rich {
		return k.expr() + k.pick(" = ", " != ") + k.expr()
	}
	sign := k.pick(" = ", " != ")
	switch one := k.form(); k.below(6) {
	case 0:
		return one + sign + one + k.pick("", " + 1", " - a")
	case 1:
		return k.signed() + sign + k.signed()
	case 2, 3:
		return k.name() + sign + k.pick(k.signed(), k.name())
	}
	return k.expr() + sign + k.expr()
}

// row draws statements in a row.
func (k *sketch) row(long, deep int) {
	for range k.below(long + 1) {
		k.statement(long, deep)
	}
}

// statement draws a statement. A `stop` is seldom: behind it there is nothing to find.
func (k *sketch) statement(long, deep int) {
	if deep > 0 && k.below(2) == 0 {
		k.nested(long, deep)
		return
	}
	kind := k.below(12)
	switch {
	case kind == 0:
		k.WriteString("skip; ")
	case kind == 1:
		k.marks++
		k.WriteString("mark m" + strconv.Itoa(k.marks) + "; ")
	case kind == 2 && k.below(3) == 0:
		k.WriteString("stop; ")
	case k.Vars == 0:
		k.WriteString("skip; ")
	case kind == 3:
		k.WriteString(k.name() + " := any; ")
	default:
		k.WriteString(k.name() + " := " + k.expr() + "; ")
	}
}

// nested draws a statement with blocks.
func (k *sketch) nested(long, deep int) {
	kind := k.below(5)
	switch {
	case k.Vars > 0 && !k.Pure && kind < 2:
		k.test(long, deep)
		return
	case kind < 3:
		k.WriteString("choose ")
		for range k.below(3) {
			k.block(long, deep)
			k.WriteString("or ")
		}
	default:
		k.WriteString("loop ")
	}
	k.block(long, deep)
}

// test draws a statement with a condition.
func (k *sketch) test(long, deep int) {
	words := []string{"if ", "while "}
	if k.Rich {
		words = []string{"if ", "if ", "while "}
	}
	word := k.pick(words...)
	k.WriteString(word + k.cond() + " ")
	k.block(long, deep)
	if k.Rich && word == "if " && k.below(2) == 0 {
		k.WriteString("else ")
		k.block(long, deep)
	}
}

// block draws a block.
func (k *sketch) block(long, deep int) {
	k.WriteString("{ ")
	k.row(long, deep-1)
	k.WriteString("} ")
}
