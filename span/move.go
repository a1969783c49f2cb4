package span

import (
	"slices"

	"rafter/affine"
	"rafter/api"
	"rafter/whole"
)

// Join answers the least span that holds both; ErrArg, if o is nil, or has another n.
func (s *Span) Join(o *Span) (*Span, api.Errno) {
	if !s.fits(o) {
		return nil, api.ErrArg
	}
	return build(s.n, slices.Concat(s.lifts(), o.lifts()))
}

// Meet answers the span of the points of both; ErrArg, if o is nil, or has another n.
func (s *Span) Meet(o *Span) (*Span, api.Errno) {
	if !s.fits(o) {
		return nil, api.ErrArg
	}
	return build(s.n, slices.Concat(s.equations(), o.equations()))
}

// Set answers the points that its points become, when their number v becomes f of them; ErrArg, if there is no variable v, or f has not n + 1 numbers.
func (s *Span) Set(v int, f []api.Whole) (*Span, api.Errno) {
	if !s.moves(v, f) {
		return nil, api.ErrArg
	}
	// What f adds is turned round, as the number is by which a lifted point is divided.
	turned := slices.Clone(f)
	turned[s.n] = whole.Neg(f[s.n])
	var images lifts
	for _, l := range s.lifts() {
		image := slices.Clone(l)
		image[v] = makes(turned, l)
		images = append(images, image)
	}
	return build(s.n, images)
}

// Any answers all points that are a point of it but for their number v; ErrArg, if there is no variable v.
func (s *Span) Any(v int) (*Span, api.Errno) {
	if !s.knows(v) {
		return nil, api.ErrArg
	}
	step := make([]api.Whole, s.n+1)
	step[v] = whole.Of(1)
	return build(s.n, append(slices.Clone(s.lifts()), step))
}

// Before answers the points that become points of it, when their number v becomes f of them; ErrArg, if there is no variable v, or f has not n + 1 numbers.
func (s *Span) Before(v int, f []api.Whole) (*Span, api.Errno) {
	if !s.moves(v, f) {
		return nil, api.ErrArg
	}
	var rows equations
	for _, row := range s.equations() {
		put, _ := affine.Put(row, v, f)
		rows = append(rows, put)
	}
	return build(s.n, rows)
}

// Every answers the points that are points of it whatever their number v is; ErrArg, if there is no variable v.
func (s *Span) Every(v int) (*Span, api.Errno) {
	if !s.knows(v) {
		return nil, api.ErrArg
	}
	if slices.ContainsFunc(s.equations(), func(row []api.Whole) bool { return other(row[v]) }) {
		return Empty(s.n)
	}
	return build(s.n, s.equations())
}

// knows says whether there is a variable v.
func (s *Span) knows(v int) bool { return v >= 0 && v < s.n }

// moves says whether there is a variable v, and f is a form.
func (s *Span) moves(v int, f []api.Whole) bool { return s.knows(v) && len(f) == s.n+1 }
