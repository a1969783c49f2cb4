package prune_test

import (
	"strings"
	"testing"

	"rafter/api"
	"rafter/graph"
	"rafter/guard"
	"rafter/lang"
	"rafter/solver"
	"rafter/span"
)

// statement is one of a program's, as its Lines tell it: its head's line, and what stands in its blocks.
type statement struct {
	head   api.Line
	blocks []block
}

// block is what stands in braces: the line of its word (of a statement's first block the statement's own), and its statements.
type block struct {
	head api.Line
	body []statement
}

// rowOf answers the statements that stand at this depth ahead of the first line of a lower one, and the lines behind them.
func rowOf(lines []api.Line, depth int) ([]statement, []api.Line) {
	var out []statement
	for len(lines) > 0 && lines[0].Depth == depth && lines[0].Kind != api.LineOr && lines[0].Kind != api.LineElse {
		s := statement{head: lines[0]}
		lines = lines[1:]
		switch s.head.Kind {
		case api.LineChoose, api.LineLoop, api.LineIf, api.LineWhile:
			b := block{head: s.head}
			b.body, lines = rowOf(lines, depth+1)
			s.blocks = append(s.blocks, b)
		}
		for len(s.blocks) > 0 && len(lines) > 0 && lines[0].Depth == depth && (lines[0].Kind == api.LineOr || lines[0].Kind == api.LineElse) {
			b := block{head: lines[0]}
			b.body, lines = rowOf(lines[1:], depth+1)
			s.blocks = append(s.blocks, b)
		}
		out = append(out, s)
	}
	return out, lines
}

// linesOf answers the lines of statements at a depth.
func linesOf(l []statement, depth int) []api.Line {
	var out []api.Line
	for _, s := range l {
		if len(s.blocks) == 0 {
			s.head.Depth = depth
			out = append(out, s.head)
		}
		for _, b := range s.blocks {
			b.head.Depth = depth
			out = append(append(out, b.head), linesOf(b.body, depth+1)...)
		}
	}
	return out
}

// printed answers statements as they are printed at a depth.
func printed(l []statement, depth int) string {
	blanks, out := strings.Repeat("  ", depth), ""
	for _, s := range l {
		for i, b := range s.blocks {
			if i > 0 {
				out += blanks + "} " + b.head.Text + " {\n"
			} else {
				out += blanks + b.head.Text + " {\n"
			}
			out += printed(b.body, depth+1)
		}
		if len(s.blocks) > 0 {
			out += blanks + "}\n"
		} else {
			out += blanks + s.head.Text + ";\n"
		}
	}
	return out
}

// model prunes a program word for word as P18.1 says. It counts the points as P10.1 makes them, and counts how often each of P18.1's points was the one.
type model struct {
	t      *testing.T
	text   string
	vars   []string
	found  *solver.Result
	points int
	fired  map[string]int
}

// modelOf answers what must be left of a program: its lines, and as it is printed.
func modelOf(t *testing.T, text string, p *lang.Program, fired map[string]int) ([]api.Line, string) {
	t.Helper()
	g, e := graph.Of(p)
	if e != api.OK {
		t.Fatalf("P10.1: %q: %v", text, e)
	}
	r, e := solver.Solve(g)
	if e != api.OK {
		t.Fatalf("P12.4: %q: %v", text, e)
	}
	m := &model{t, text, p.Vars(), r, 1, fired}
	lines := p.Lines()
	body, rest := rowOf(lines[1:], 0)
	out, exit := m.row(body, 0)
	if len(rest) > 0 || exit != g.Exit() || m.points != g.Points() {
		t.Fatalf("the model goes wrong: %q: %d, %d points, %v", text, exit, m.points, rest)
	}
	return append(lines[:1:1], linesOf(out, 0)...), lines[0].Text + ";\n" + printed(out, 0)
}

// made answers a new point.
func (m *model) made() int {
	m.points++
	return m.points - 1
}

// count counts one of P18.1's points.
func (m *model) count(what string) { m.fired[what]++ }

// row answers what is left of statements that begin at a point, and where they end.
func (m *model) row(l []statement, from int) ([]statement, int) {
	var out []statement
	for _, s := range l {
		left, end := m.statement(s, from)
		if len(m.found.Samples(from)) == 0 {
			m.count("1 no sample")
			left = nil
		}
		out, from = append(out, left...), end
	}
	return out, from
}

// statement answers what is left of a statement that begins at a point, if it has samples, and where it ends.
func (m *model) statement(s statement, from int) ([]statement, int) {
	switch s.head.Kind {
	case api.LineSkip:
		m.count("2 skip")
		return nil, m.made()
	case api.LineSet:
		end := m.made()
		return m.assignment(s, from, end), end
	case api.LineAny, api.LineStop:
		return []statement{s}, m.made()
	case api.LineMark:
		return []statement{s}, from
	case api.LineChoose, api.LineIf:
		return m.fork(s, from)
	}
	return m.round(s)
}

// assignment answers what is left of an assignment. Its end has no other edge that leads to it: so what the variable is there is what the form is here.
func (m *model) assignment(s statement, from, end int) []statement {
	name, expr, _ := strings.Cut(s.head.Text, " := ")
	form, ok, e, _ := guard.Affine(expr, m.vars)
	if e != api.OK {
		m.t.Fatalf("P9.2: %q: %q: %v", m.text, expr, e)
	}
	v := indexOf(m.vars, name)
	if !ok {
		m.count("3 hard")
		return []statement{s}
	}
	n := len(m.vars)
	same := append([]api.Whole{}, form...) // the form less the variable is 0
	same[v] = added(form[v], -1, numbers("1")[0])
	same[n] = added(api.Whole{}, -1, form[n])
	if is, _ := m.found.Implied(from, same); is {
		m.count("3 the same")
		return nil
	}
	if c, is, _ := m.found.Constant(end, v); is {
		text := name + " := " + toBig(c.Num).String()
		if text != s.head.Text {
			m.count("3 one number")
		}
		s.head.Text = text
	}
	return []statement{s}
}

// fork answers what is left of a statement whose blocks meet behind it, and where they do.
func (m *model) fork(s statement, from int) ([]statement, int) {
	for i, b := range s.blocks {
		s.blocks[i].body, _ = m.row(b.body, m.made())
	}
	branch := s.head.Kind == api.LineIf
	if branch && len(s.blocks) == 1 {
		m.made()
	}
	end := m.made()
	if branch {
		switch always, never := m.condition(s.head, "if ", from); {
		case always:
			m.count("4 always")
			return s.blocks[0].body, end
		case never && len(s.blocks) == 2:
			m.count("4 never, with else")
			return s.blocks[1].body, end
		case never:
			m.count("4 never")
			return nil, end
		}
	}
	return []statement{s}, end
}

// round answers what is left of a statement that comes back to its head, and where it ends.
func (m *model) round(s statement) ([]statement, int) {
	head := m.made()
	s.blocks[0].body, _ = m.row(s.blocks[0].body, m.made())
	end := m.made()
	if s.head.Kind == api.LineWhile {
		switch always, never := m.condition(s.head, "while ", head); {
		case never:
			m.count("5 never")
			return nil, end
		case always:
			m.count("5 always")
		}
	}
	return []statement{s}, end
}

// condition answers whether a line's condition tells a row and holds everywhere on the hull of a point's samples, and whether it holds nowhere there. That two spans have no point in common is never too big to be told.
func (m *model) condition(l api.Line, word string, point int) (always, never bool) {
	hull, _ := m.found.Span(point)
	row, ok, equal, e, _ := guard.Cond(strings.TrimPrefix(l.Text, word), m.vars)
	if e != api.OK {
		m.t.Fatalf("P9.3: %q: %q: %v", m.text, l.Text, e)
	}
	if !ok || hull.Dim() < 0 {
		return false, false
	}
	all, _ := hull.Holds(row)
	at, e := span.Rows(len(m.vars), [][]api.Whole{row})
	if e != api.OK {
		m.t.Fatalf("P7.5: %q: %v", m.text, e)
	}
	both, e := hull.Meet(at)
	none := e == api.OK && both.Dim() < 0
	if equal {
		return all, none
	}
	return none, all
}

// indexOf answers the number of a name.
func indexOf(l []string, name string) int {
	for i, x := range l {
		if x == name {
			return i
		}
	}
	panic("no variable: " + name)
}
