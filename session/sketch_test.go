package session_test

import (
	"fmt"
	"strings"
	"testing"

	"rafter/api"
	"rafter/session"
)

// letters are the variables' names.
const letters = "abcdefgh"

// sketch is a program that is being drawn, as a text.
type sketch struct {
	*stream
	strings.Builder
	vars  int
	marks int
	pure  bool
	wide  bool // whether there are long numbers now and then
}

// program draws a program with so many statements in a row at most, nested so deep at most.
func (s *stream) program(vars, long, deep int, pure, wide bool) string {
	k := &sketch{stream: s, vars: vars, pure: pure, wide: wide}
	k.WriteString("vars")
	for v := range vars {
		k.WriteString([]string{" ", ", "}[min(v, 1)] + letters[v:v+1])
		if s.below(3) > 0 {
			k.WriteString(" = " + k.signed())
		}
	}
	k.WriteString("; ")
	k.row(long, deep)
	if s.below(3) == 0 {
		k.WriteString("loop { ")
		k.row(long, deep-1)
		k.WriteString("} ")
	}
	return k.String()
}

// number draws a number, most of them small.
func (k *sketch) number() string {
	if k.wide && k.below(6) == 0 {
		return spelt(k.pick("M", "N", "K", "4294967296"))
	}
	return k.pick("0", "1", "1", "2", "3", "5")
}

// signed draws a number that may be below 0.
func (k *sketch) signed() string { return k.pick("", "", "-") + k.number() }

// name draws a variable.
func (k *sketch) name() string {
	v := k.below(k.vars)
	return letters[v : v+1]
}

// form draws an expression that has a form.
func (k *sketch) form() string {
	out := k.signed()
	for range k.below(3) {
		out += k.pick(" + ", " - ") + k.pick("", k.number()+" * ") + k.name()
	}
	if k.below(4) == 0 {
		return k.name()
	}
	return out
}

// expr draws an expression; it has a form, if the program is pure. Now and then it says less than it seems to.
func (k *sketch) expr() string {
	switch k.below(14) {
	case 0:
		name := k.name()
		return k.signed() + " + " + name + " - " + name
	case 1:
		return k.signed() + " * (" + k.number() + " - " + k.number() + ") + " + k.name()
	case 2:
		return k.pick("1", "-7") + k.pick(" / ", " % ") + k.pick("2", "3")
	}
	if k.pure || k.below(3) > 0 {
		return k.form()
	}
	return "(" + k.form() + ")" + k.pick(" * ", " / ", " % ") + "(" + k.form() + ")"
}

// cond draws a condition. Many come out one way, whatever the state is, or where a variable is one number.
func (k *sketch) cond() string {
	sign := k.pick(" = ", " != ")
	switch one := k.form(); k.below(6) {
	case 0:
		return one + sign + one + k.pick("", " + 1", " - a")
	case 1:
		return k.signed() + sign + k.signed()
	case 2, 3:
		return k.name() + sign + k.pick(k.signed(), k.name())
	}
	return k.expr() + sign + k.expr()
}

// row draws a row of statements.
func (k *sketch) row(long, deep int) {
	for range k.below(long + 1) {
		k.statement(long, deep)
	}
}

// statement draws a statement. A `stop` is seldom: behind it there is nothing to find.
func (k *sketch) statement(long, deep int) {
	if deep > 0 && k.below(2) == 0 {
		k.nested(long, deep)
		return
	}
	kind := k.below(12)
	switch {
	case kind == 0:
		k.WriteString("skip; ")
	case kind == 1:
		k.marks++
		fmt.Fprintf(k, "mark m%d; ", k.marks)
	case kind == 2 && k.below(3) == 0:
		k.WriteString("stop; ")
	case k.vars == 0:
		k.WriteString("skip; ")
	case kind == 3:
		k.WriteString(k.name() + " := any; ")
	default:
		k.WriteString(k.name() + " := " + k.expr() + "; ")
	}
}

// nested draws a statement with blocks.
func (k *sketch) nested(long, deep int) {
	kind := k.below(5)
	switch {
	case k.vars > 0 && !k.pure && kind < 2:
		k.test(long, deep)
		return
	case kind < 3:
		k.WriteString("choose ")
		for range k.below(3) {
			k.block(long, deep)
			k.WriteString("or ")
		}
	default:
		k.WriteString("loop ")
	}
	k.block(long, deep)
}

// test draws a statement with a condition.
func (k *sketch) test(long, deep int) {
	word := k.pick("if ", "if ", "while ")
	k.WriteString(word + k.cond() + " ")
	k.block(long, deep)
	if word == "if " && k.below(2) == 0 {
		k.WriteString("else ")
		k.block(long, deep)
	}
}

// block draws a block.
func (k *sketch) block(long, deep int) {
	k.WriteString("{ ")
	k.row(long, deep-1)
	k.WriteString("} ")
}

// drawn draws programs that a session takes, every second one pure, every third one with long numbers, and hands each one on with a session that holds it, and with what such a session must tell.
func drawn(t *testing.T, s *stream, count int, do func(text string, held *session.Session, m *model)) {
	t.Helper()
	taken := 0
	for n := range count {
		text := s.program(s.below(4)+s.below(4), 2+n%4, n%4, n%2 == 0, n%3 == 0)
		held, m := session.New(), &model{}
		e, at := held.Load(text)
		if want, place := m.load(text); e != want || at != place {
			t.Fatalf("P19.1: %q: %v at %v; want %v at %v", text, e, at, want, place)
		}
		if e == api.OK {
			taken++
			do(text, held, m)
		}
	}
	if taken < count/2 {
		t.Errorf("too few were drawn: %d of %d", taken, count)
	}
}
