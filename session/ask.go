package session

import (
	"slices"

	"rafter/api"
	"rafter/back"
	"rafter/cert"
	"rafter/machine"
	"rafter/prune"
	"rafter/refute"
)

// Size answers how many points and edges the program has. Like each call below, it answers ErrNone, if nothing is held.
func (s *Session) Size() (points, edges int, e api.Errno) {
	h, e := s.asked()
	if e != api.OK {
		return 0, 0, e
	}
	return h.Points(), len(h.Edges()), api.OK
}

// Point answers the point of a mark; ErrName, if there is no such mark.
func (s *Session) Point(name string) (int, api.Errno) {
	h, e := s.asked()
	if e != api.OK {
		return 0, e
	}
	point, ok := h.Mark(name)
	if !ok {
		return 0, api.ErrName
	}
	return point, api.OK
}

// Program answers the program as it is printed.
func (s *Session) Program() (string, api.Errno) {
	h, e := s.asked()
	if e != api.OK {
		return "", e
	}
	return h.program.Print(), api.OK
}

// Pruned answers what prune.Prune makes of the program, as it is printed.
func (s *Session) Pruned() (string, api.Errno) {
	h, e := s.asked()
	if e != api.OK {
		return "", e
	}
	p, e := prune.Prune(h.program)
	if e != api.OK {
		return "", e
	}
	return p.Print(), api.OK
}

// Equations answers what holds at a point, a line each; like each call that is handed a point, ErrPoint, if there is no such point.
func (s *Session) Equations(point int) (string, api.Errno) {
	h, e := s.asked(point)
	if e != api.OK {
		return "", e
	}
	return h.Print(point)
}

// Implied says whether an equation is implied at a point; what affine.Equation refuses, with its place.
func (s *Session) Implied(point int, equation string) (bool, api.Errno, api.Place) {
	h, row, e, at := s.read(equation, point)
	if e != api.OK {
		return false, e, at
	}
	is, e := h.Implied(point, row)
	return is, e, api.Place{}
}

// Given says whether the points of a point's hull that meet all equations of given meet another one. What affine.Equation refuses of the first one that it refuses, of given ahead of the other one, with its place; ErrArg, if there are more than MaxRows given; ErrTooBig, if these points are a span that is too big.
func (s *Session) Given(point int, given []string, equation string) (bool, api.Errno, api.Place) {
	h, e := s.asked(point)
	if e != api.OK {
		return false, e, api.Place{}
	}
	count := len(given)
	rows, e, at := h.rows(slices.Concat(given, []string{equation})...)
	switch {
	case e != api.OK:
		return false, e, at
	case count > api.MaxRows:
		return false, api.ErrArg, api.Place{}
	}
	met, e := h.meeting(point, rows[:count])
	if e != api.OK {
		return false, e, api.Place{}
	}
	is, e := met.Holds(rows[count])
	return is, e, api.Place{}
}

// Refute answers what refute.Text tells of an equation at a point; what affine.Equation refuses, with its place.
func (s *Session) Refute(point int, equation string) (api.Witness, api.Errno, api.Place) {
	h, e := s.asked(point)
	if e != api.OK {
		return api.Witness{}, e, api.Place{}
	}
	return refute.Text(h.Result, point, equation)
}

// Run answers where a run of these choices and this fuel stands.
func (s *Session) Run(choices []int, fuel int) (api.Stand, api.Errno) {
	h, e := s.asked()
	if e != api.OK {
		return api.Stand{}, e
	}
	return machine.Run(h.Graph, choices, fuel)
}

// Before answers what must be met at the point at for an equation to be met at another point on all ways from there, a line each. What affine.Equation refuses, with its place; what back.Find refuses.
func (s *Session) Before(point int, equation string, at int) (string, api.Errno, api.Place) {
	h, row, e, place := s.read(equation, point, at)
	if e != api.OK {
		return "", e, place
	}
	need, e := back.Find(h.Graph, point, row)
	if e != api.OK {
		return "", e, api.Place{}
	}
	met, e := need.Span(at)
	if e != api.OK {
		return "", e, api.Place{}
	}
	text, e := met.Print(h.Vars())
	return text, e, api.Place{}
}

// Relations answers how the values at a point hang together with those at the beginning of the run, a line each; what relate.Solve refuses.
func (s *Session) Relations(point int) (string, api.Errno) {
	h, e := s.asked(point)
	if e != api.OK {
		return "", e
	}
	b, e := h.bonds()
	if e != api.OK {
		return "", e
	}
	return b.Print(point)
}

// Related says whether an equation between the values at a point and those at the beginning of the run is implied; what relate.Solve refuses; what affine.Equation refuses, with its place.
func (s *Session) Related(point int, equation string) (bool, api.Errno, api.Place) {
	h, e := s.asked(point)
	if e != api.OK {
		return false, e, api.Place{}
	}
	b, e := h.bonds()
	if e != api.OK {
		return false, e, api.Place{}
	}
	return b.Text(point, equation)
}

// Certificate answers the certificate of what was found, as a text.
func (s *Session) Certificate() (string, api.Errno) {
	h, e := s.asked()
	if e != api.OK {
		return "", e
	}
	return cert.Print(cert.Of(h.Result)), api.OK
}

// Vouch checks the certificate of a text: what cert.Parse refuses, and the line; else what cert.Check answers.
func (s *Session) Vouch(text string) (api.Errno, int) {
	h, e := s.asked()
	if e != api.OK {
		return e, 0
	}
	c, e, line := cert.Parse(text)
	if e != api.OK {
		return e, line
	}
	return cert.Check(h.Graph, c)
}
