package lang

import (
	"strings"

	"rafter/api"
	"rafter/whole"
)

// teller writes a program in its one form, and gathers its lines on the way, so that their Texts are what is written, and its statements, so that the numbers of their lines are known.
type teller struct {
	lines []api.Line
	heads []Head
	text  strings.Builder
	depth int // how many blocks are open
}

// tell tells all of a program.
func tell(p *Program) *teller {
	t := &teller{}
	t.line("", api.Line{Kind: api.LineVars, Text: declared(p.begins), At: p.at}, ";")
	t.statements(p.body)
	return t
}

// declared answers the declarations as they are written, without what ends them.
func declared(begins []api.Begin) string {
	out, between := "vars", " "
	for _, b := range begins {
		out += between + b.Name
		if !b.Any {
			out += " = " + whole.Text(b.Value)
		}
		between = ", "
	}
	return out
}

// write writes a line.
func (t *teller) write(text string) {
	t.text.WriteString(strings.Repeat("  ", t.depth) + text + "\n")
}

// line gathers a line, and writes its Text with what stands ahead of it and behind it.
func (t *teller) line(ahead string, l api.Line, behind string) {
	l.Depth = t.depth
	t.lines = append(t.lines, l)
	t.write(ahead + l.Text + behind)
}

// statements tells statements, one by one.
func (t *teller) statements(l []Statement) {
	for _, s := range l {
		t.statement(s)
	}
}

// statement tells a statement, and all that stands within.
func (t *teller) statement(s Statement) {
	t.heads = append(t.heads, Head{len(t.lines), s})
	switch s := s.(type) {
	case Set:
		t.plain(s, api.LineSet, s.Of.Name+" := "+textOf(s.To))
	case Free:
		t.plain(s, api.LineAny, s.Of.Name+" := any")
	case Skip:
		t.plain(s, api.LineSkip, "skip")
	case Stop:
		t.plain(s, api.LineStop, "stop")
	case Mark:
		t.plain(s, api.LineMark, "mark "+s.Name)
	case Choose:
		t.nest(s.blocks, api.Line{Kind: api.LineChoose, Text: "choose"}, api.Line{Kind: api.LineOr, Text: "or"})
	case Loop:
		t.nest(s.blocks, api.Line{Kind: api.LineLoop, Text: "loop"}, api.Line{})
	case If:
		t.nest(s.blocks, api.Line{Kind: api.LineIf, Text: "if " + s.When.text()}, api.Line{Kind: api.LineElse, Text: "else"})
	case While:
		t.nest(s.blocks, api.Line{Kind: api.LineWhile, Text: "while " + s.When.text()}, api.Line{})
	}
}

// text answers a condition as it is written.
func (c Condition) text() string { return textOf(c.Left) + " " + c.Sign + " " + textOf(c.Right) }

// plain tells a statement without blocks.
func (t *teller) plain(s Statement, kind int, text string) {
	t.line("", api.Line{Kind: kind, Text: text, At: s.Place()}, ";")
}

// nest tells blocks: the first one's head is first, every other one's is later, which stands on the line that closes the one ahead of it.
func (t *teller) nest(l blocks, first, later api.Line) {
	ahead, head := "", first
	for _, b := range l {
		head.At = b.Place()
		t.line(ahead, head, " {")
		t.depth++
		t.statements(b.body)
		t.depth--
		ahead, head = "} ", later
	}
	t.write("}")
}
