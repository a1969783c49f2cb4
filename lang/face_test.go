package lang_test

import (
	"slices"
	"testing"

	"rafter/api"
	"rafter/lang"
)

// What the layers above ask of lang, beside the calls that the chapter lists.

// drawnAs answers an expression over the few names that was read as a tree.
func drawnAs(t *testing.T, x lang.Expression) *tree {
	t.Helper()
	return drawnOver(t, x, few)
}

// drawnOver answers an expression over these variables that was read as a tree, and fails the test where a variable's number is not that of its name.
func drawnOver(t *testing.T, x lang.Expression, vars []string) *tree {
	t.Helper()
	switch x := x.(type) {
	case lang.Number:
		return &tree{leaf: toBig(x.Whole()).String()}
	case lang.Variable:
		if x.Index != slices.Index(vars, x.Name) {
			t.Fatalf("P8.7: %q is number %d", x.Name, x.Index)
		}
		return &tree{leaf: x.Name}
	case lang.Negation:
		return &tree{sign: "-", parts: []*tree{drawnOver(t, x.Of, vars)}}
	case lang.Operation:
		return &tree{sign: x.Sign, parts: []*tree{drawnOver(t, x.Left, vars), drawnOver(t, x.Right, vars)}}
	}
	t.Fatalf("P8.1: %v is no expression", x)
	return nil
}

// equalTree says whether two trees are the same.
func equalTree(x, y *tree) bool {
	return x.leaf == y.leaf && x.sign == y.sign && slices.EqualFunc(x.parts, y.parts, equalTree)
}

func TestReadExpr(t *testing.T) { // P8.1, P8.7: an expression's parts are those that were drawn
	s := &stream{96}
	for n := range 2000 {
		drawn := s.tree(n%6, few)
		text := s.join(s.tokens(drawn))
		if len(text) > api.MaxText {
			continue
		}
		x, e, at := lang.ReadExpr(text, few)
		if e != api.OK || at != (api.Place{}) || !equalTree(drawnAs(t, x), drawn) {
			t.Fatalf("P8.7: ReadExpr(%q): %v at %v; want %q", text, e, at, drawn.short())
		}
	}
}

func TestReadCond(t *testing.T) { // P8.1, P8.3: two sides and a sign, or what is refused
	s := &stream{97}
	taken := 0
	for n := range 4000 {
		left, right, sign := s.tree(n%5, few), s.tree(n%4, few), s.pick("=", "!=")
		l := append(append(s.tokens(left), sign), s.tokens(right)...)
		spoilt := n%2 == 0
		text := s.join(l)
		if spoilt {
			text, _ = s.lay(s.spoilt(plainWords(l...)), false)
		}
		c, e, at := lang.ReadCond(text, few)
		if wantE, wantAt := verdict("test", text, few); e != wantE || at != wantAt {
			t.Fatalf("P8.3: ReadCond(%q): %v at %v, want %v at %v", text, e, at, wantE, wantAt)
		}
		if e != api.OK && c != (lang.Condition{}) {
			t.Fatalf("R2: ReadCond(%q) = %v beside %v", text, c, e)
		}
		if e != api.OK || spoilt {
			continue
		}
		taken++
		if c.Sign != sign || !equalTree(drawnAs(t, c.Left), left) || !equalTree(drawnAs(t, c.Right), right) {
			t.Fatalf("P8.1: ReadCond(%q) is not %q %s %q", text, left.short(), sign, right.short())
		}
	}
	if taken < 1000 {
		t.Errorf("too few were drawn: %d", taken)
	}
	for _, vars := range [][]string{{"x", "x"}, {"2"}} {
		if c, e, at := lang.ReadCond("x = <", vars); c != (lang.Condition{}) || e != api.ErrArg || at != (api.Place{}) {
			t.Errorf("P8.7: over %q: %v, %v at %v", vars, c, e, at)
		}
	}
}

// kindOf answers the kind of the line of a statement.
func kindOf(s lang.Statement) int {
	switch s.(type) {
	case lang.Set:
		return api.LineSet
	case lang.Free:
		return api.LineAny
	case lang.Skip:
		return api.LineSkip
	case lang.Stop:
		return api.LineStop
	case lang.Mark:
		return api.LineMark
	case lang.Choose:
		return api.LineChoose
	case lang.Loop:
		return api.LineLoop
	case lang.If:
		return api.LineIf
	case lang.While:
		return api.LineWhile
	}
	return 0
}

func TestHeads(t *testing.T) { // P8.5: each statement goes with its line
	s := &stream{98}
	for n := range 500 {
		_, text, _ := s.short(n%2 == 0)
		p := parsed(t, text)
		lines, heads := p.Lines(), p.Heads()
		next := 0
		for i, l := range lines {
			if l.Kind == api.LineVars || l.Kind == api.LineOr || l.Kind == api.LineElse {
				continue
			}
			h := heads[next]
			next++
			if h.Line != i || h.Place() != l.At || kindOf(h.Statement) != l.Kind {
				t.Fatalf("P8.5: %q: %v goes with line %d, %v", text, h, i, l)
			}
		}
		if next != len(heads) {
			t.Fatalf("P8.5: %q has %d statements, want %d", text, len(heads), next)
		}
	}
}

// sameRow fails the test if statements are not those that were drawn, all that stands within them too.
func sameRow(t *testing.T, text string, got []lang.Statement, want []*sketch, vars []string) {
	t.Helper()
	if len(got) != len(want) {
		t.Fatalf("P8.1: %q: %d statements in a row, want %d", text, len(got), len(want))
	}
	for i, k := range want {
		if kindOf(got[i]) != k.kind || !sameStatement(t, got[i], k, vars) {
			t.Fatalf("P8.1: %q: %v is not what was drawn, %v", text, got[i], k)
		}
		if len(k.blocks) == 0 {
			continue
		}
		bodies := got[i].(lang.Nest).Bodies()
		if len(bodies) != len(k.blocks) {
			t.Fatalf("P8.1: %q: %d blocks, want %d", text, len(bodies), len(k.blocks))
		}
		for j, b := range k.blocks {
			sameRow(t, text, bodies[j], b, vars)
		}
	}
}

// sameStatement says whether a statement is the one that was drawn, but for what stands in its blocks.
func sameStatement(t *testing.T, got lang.Statement, k *sketch, vars []string) bool {
	t.Helper()
	same := func(x lang.Expression, y *tree) bool { return equalTree(drawnOver(t, x, vars), y) }
	switch s := got.(type) {
	case lang.Set:
		return s.Of == lang.Variable{Name: k.name, Index: slices.Index(vars, k.name)} && same(s.To, k.left)
	case lang.Free:
		return s.Of == lang.Variable{Name: k.name, Index: slices.Index(vars, k.name)}
	case lang.Mark:
		return s.Name == k.name
	case lang.If:
		return s.When.Sign == k.sign && same(s.When.Left, k.left) && same(s.When.Right, k.right)
	case lang.While:
		return s.When.Sign == k.sign && same(s.When.Left, k.left) && same(s.When.Right, k.right)
	}
	return true
}

func TestBody(t *testing.T) { // P8.1: a program's statements are those that were drawn
	s := &stream{99}
	for n := range 500 {
		drawn, text, _ := s.short(n%2 == 0)
		sameRow(t, text, parsed(t, text).Body(), drawn.body, drawn.vars())
	}
}

func TestValueOf(t *testing.T) { // P8.8: it is what Value answers
	s := &stream{100}
	met := map[api.Errno]int{}
	for n := range 2000 {
		text := s.tree(n%5, few).short()
		x, e, _ := lang.ReadExpr(text, few)
		if e != api.OK {
			continue
		}
		state := s.wholes(len(few), 2*(n%2))
		got, e := lang.ValueOf(x, state)
		want, e2 := lang.Value(text, few, state)
		met[e]++
		if e != e2 || !equalWhole(got, want) {
			t.Fatalf("P8.8: ValueOf(%q) = %v, %v; Value is %v, %v", text, got, e, want, e2)
		}
	}
	if met[api.OK] < 1000 || met[api.ErrDivide] < 50 {
		t.Errorf("too few of a kind were drawn: %v", met)
	}
}

func TestTreeStays(t *testing.T) { // R3: what is reached of a program is a copy
	p := parsed(t, full)
	want := picture(p)
	heads := p.Heads()
	product := heads[0].Statement.(lang.Set).To.(lang.Operation)
	mag := product.Left.(lang.Number).Whole().Mag
	for i := range mag[:cap(mag)] {
		mag[:cap(mag)][i] = 5
	}
	for i := range heads {
		heads[i] = lang.Head{}
	}
	for _, s := range p.Body() {
		if nest, ok := s.(lang.Nest); ok {
			for _, b := range nest.Bodies() {
				for i := range b[:cap(b)] {
					b[:cap(b)][i] = lang.Stop{}
				}
			}
		}
	}
	body := p.Body()
	for i := range body[:cap(body)] {
		body[:cap(body)][i] = lang.Stop{}
	}
	if picture(p) != want || len(p.Heads()) == 0 || p.Heads()[0].Line != 1 {
		t.Error("R3: a program hangs on what became of its statements")
	}
}

// turned answers statements, of which do answers what becomes of those in each block, from within; and writes over the lists that it hands in.
func turned(l []lang.Statement, do func([]lang.Statement) []lang.Statement) []lang.Statement {
	var out []lang.Statement
	for _, s := range l {
		if nest, ok := s.(lang.Nest); ok {
			bodies := nest.Bodies()
			for i := range bodies {
				bodies[i] = do(turned(bodies[i], do))
			}
			s = nest.With(bodies)
			for i := range bodies {
				for j := range bodies[i] {
					bodies[i][j] = lang.Stop{}
				}
				bodies[i] = nil
			}
		}
		out = append(out, s)
	}
	return out
}

func TestWith(t *testing.T) { // P8.5, R3: a program with the same statements tells the same; with none in its blocks it has none there; and the one that it came from stays
	s := &stream{101}
	for n := range 300 {
		_, text, _ := s.short(n%2 == 0)
		p := parsed(t, text)
		was := picture(p)
		body := turned(p.Body(), slices.Clone)
		same := p.With(body)
		emptied := p.With(turned(body, func([]lang.Statement) []lang.Statement { return nil }))
		for i := range body {
			body[i] = lang.Stop{}
		}
		if picture(p) != was || picture(same) != was {
			t.Fatalf("R3: %q: %s; with the same statements %s", text, was, picture(same))
		}
		var want []api.Line
		for _, l := range p.Lines() {
			if l.Depth == 0 {
				want = append(want, l)
			}
		}
		if got := emptied.Lines(); !slices.Equal(got, want) {
			t.Fatalf("P8.5: %q: with empty blocks %v; want %v", text, got, want)
		}
	}
}

func TestNumberOf(t *testing.T) { // P8.6, P8.8: the expression says its number, and is one that the reader makes
	s := &stream{102}
	for _, x := range append(s.wholes(200, 5), api.Whole{}, api.Whole{Neg: true}, api.Whole{Neg: true, Mag: []uint32{7, 0}}) {
		text := toBig(x).String()
		made := lang.NumberOf(x)
		read, e, at := lang.ReadExpr(text, nil)
		if e != api.OK || !equalTree(drawnAs(t, made), drawnAs(t, read)) {
			t.Fatalf("P8.7: %s: %v at %v", text, e, at)
		}
		for i := range x.Mag {
			x.Mag[i] = 99
		}
		if got, e := lang.ValueOf(made, nil); e != api.OK || toBig(got).String() != text {
			t.Fatalf("P8.8: %s: %s, %v", text, toBig(got), e)
		}
	}
}
