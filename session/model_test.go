package session_test

import (
	"math/big"
	"slices"
	"testing"

	"rafter/affine"
	"rafter/api"
	"rafter/back"
	"rafter/cert"
	"rafter/graph"
	"rafter/lang"
	"rafter/machine"
	"rafter/prune"
	"rafter/refute"
	"rafter/relate"
	"rafter/session"
	"rafter/solver"
	"rafter/whole"
)

// model is what a session must tell, asked anew of the layers below at each call, word for word as P19.1 and P19.2 say.
type model struct {
	p *lang.Program // none, if nothing is held
	g *graph.Graph
	r *solver.Result
}

// load makes the model that of a text.
func (m *model) load(text string) (api.Errno, api.Place) {
	p, e, at := lang.Parse(text)
	if e != api.OK {
		return e, at
	}
	g, e := graph.Of(p)
	if e != api.OK {
		return e, api.Place{}
	}
	r, e := solver.Solve(g)
	if e == api.OK {
		m.p, m.g, m.r = p, g, r
	}
	return e, api.Place{}
}

// refuses answers what refuses a call that is handed these points and equations, with its place.
func (m *model) refuses(points []int, equations []string) (api.Errno, api.Place) {
	if m.p == nil {
		return api.ErrNone, api.Place{}
	}
	for _, p := range points {
		if _, e := m.r.Span(p); e != api.OK {
			return e, api.Place{}
		}
	}
	for _, q := range equations {
		if _, e, at := affine.Equation(q, m.p.Vars()); e != api.OK {
			return e, at
		}
	}
	return api.OK, api.Place{}
}

// row answers the row of an equation that is not refused.
func (m *model) row(equation string) []api.Whole {
	row, _, _ := affine.Equation(equation, m.p.Vars())
	return row
}

func (m *model) Size() (points, edges int, e api.Errno) {
	if e, _ := m.refuses(nil, nil); e != api.OK {
		return 0, 0, e
	}
	return m.g.Points(), len(m.g.Edges()), api.OK
}

func (m *model) Point(name string) (int, api.Errno) {
	if e, _ := m.refuses(nil, nil); e != api.OK {
		return 0, e
	}
	if !slices.Contains(m.g.Marks(), name) {
		return 0, api.ErrName
	}
	p, _ := m.g.Mark(name)
	return p, api.OK
}

func (m *model) Program() (string, api.Errno) {
	if e, _ := m.refuses(nil, nil); e != api.OK {
		return "", e
	}
	return m.p.Print(), api.OK
}

func (m *model) Pruned() (string, api.Errno) {
	if e, _ := m.refuses(nil, nil); e != api.OK {
		return "", e
	}
	q, e := prune.Prune(m.p)
	return q.Print(), e
}

func (m *model) Equations(point int) (string, api.Errno) {
	if e, _ := m.refuses([]int{point}, nil); e != api.OK {
		return "", e
	}
	return m.r.Print(point)
}

func (m *model) Implied(point int, equation string) (bool, api.Errno, api.Place) {
	if e, at := m.refuses([]int{point}, []string{equation}); e != api.OK {
		return false, e, at
	}
	row := m.row(equation)
	breaks := func(x api.Sample) bool {
		left, _ := affine.Left(row, x.State)
		return whole.Sign(left) != 0
	}
	return !slices.ContainsFunc(m.r.Samples(point), breaks), api.OK, api.Place{}
}

func (m *model) Given(point int, given []string, equation string) (bool, api.Errno, api.Place) {
	if e, at := m.refuses([]int{point}, append(slices.Clone(given), equation)); e != api.OK {
		return false, e, at
	}
	if len(given) > api.MaxRows {
		return false, api.ErrArg, api.Place{}
	}
	all := m.r.Rows(point)
	for _, q := range given {
		all = append(all, m.row(q))
	}
	n := len(m.p.Vars())
	met := meeting(n, fractions(all))
	if met.tooBig() {
		return false, api.ErrTooBig, api.Place{}
	}
	more := append(slices.Clone(met.rows), rats(bigs(m.row(equation))))
	return met.base == nil || len(turned(more, n+1)) == len(met.rows), api.OK, api.Place{}
}

// fractions reads rows of whole numbers.
func fractions(rows [][]api.Whole) [][]*big.Rat {
	var out [][]*big.Rat
	for _, row := range rows {
		out = append(out, rats(bigs(row)))
	}
	return out
}

func (m *model) Refute(point int, equation string) (api.Witness, api.Errno, api.Place) {
	if e, at := m.refuses([]int{point}, []string{equation}); e != api.OK {
		return api.Witness{}, e, at
	}
	w, e := refute.Find(m.r, point, m.row(equation))
	return w, e, api.Place{}
}

func (m *model) Run(choices []int, fuel int) (api.Stand, api.Errno) {
	if e, _ := m.refuses(nil, nil); e != api.OK {
		return api.Stand{}, e
	}
	return machine.Run(m.g, choices, fuel)
}

func (m *model) Before(point int, equation string, at int) (string, api.Errno, api.Place) {
	if e, place := m.refuses([]int{point, at}, []string{equation}); e != api.OK {
		return "", e, place
	}
	need, e := back.Find(m.g, point, m.row(equation))
	if e != api.OK {
		return "", e, api.Place{}
	}
	out := ""
	for _, row := range need.Rows(at) {
		line, _ := affine.Print(row, m.p.Vars())
		out += line + "\n"
	}
	return out, api.OK, api.Place{}
}

func (m *model) Relations(point int) (string, api.Errno) {
	if e, _ := m.refuses([]int{point}, nil); e != api.OK {
		return "", e
	}
	r, e := relate.Solve(m.g)
	if e != api.OK {
		return "", e
	}
	return r.Print(point)
}

func (m *model) Related(point int, equation string) (bool, api.Errno, api.Place) {
	if e, _ := m.refuses([]int{point}, nil); e != api.OK {
		return false, e, api.Place{}
	}
	r, e := relate.Solve(m.g)
	if e != api.OK {
		return false, e, api.Place{}
	}
	return r.Text(point, equation)
}

func (m *model) Certificate() (string, api.Errno) {
	if e, _ := m.refuses(nil, nil); e != api.OK {
		return "", e
	}
	return cert.Print(cert.Of(m.r)), api.OK
}

func (m *model) Vouch(text string) (api.Errno, int) {
	if e, _ := m.refuses(nil, nil); e != api.OK {
		return e, 0
	}
	c, e, line := cert.Parse(text)
	if e != api.OK {
		return e, line
	}
	return cert.Check(m.g, c)
}

// like fails the test if a session tells something else than the model, and answers what both tell.
func like(t *testing.T, text string, held *session.Session, m *model, seed uint64, points int) string {
	t.Helper()
	got, want := told(held, &stream{seed}, points), told(m, &stream{seed}, points)
	if got == want {
		return got
	}
	is, must := []byte(got), []byte(want)
	at := 0
	for at < min(len(is), len(must)) && is[at] == must[at] {
		at++
	}
	from := max(0, at-300)
	t.Fatalf("P19.2: %q: ..%s; want ..%s", text, is[from:min(len(is), at+100)], must[from:min(len(must), at+100)])
	return ""
}
