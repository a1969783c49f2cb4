package span

import (
	"slices"
	"strings"

	"rafter/affine"
	"rafter/api"
	"rafter/whole"
)

// Has says whether the point is one of its points; ErrArg, if it has not n numbers.
func (s *Span) Has(point []api.Ratio) (bool, api.Errno) {
	if len(point) != s.n {
		return false, api.ErrArg
	}
	return across(s.equations(), lifted(point)), api.OK
}

// Holds says whether each of its points meets the row; ErrArg, if it has not n + 1 numbers.
func (s *Span) Holds(row []api.Whole) (bool, api.Errno) {
	if len(row) != s.n+1 {
		return false, api.ErrArg
	}
	return across(s.lifts(), row), api.OK
}

// Within says whether each of its points is one of o's; ErrArg, if o is nil, or has another n.
func (s *Span) Within(o *Span) (bool, api.Errno) {
	if !s.fits(o) {
		return false, api.ErrArg
	}
	broken := func(row []api.Whole) bool { return !across(s.lifts(), row) }
	return !slices.ContainsFunc(o.equations(), broken), api.OK
}

// Same says whether the two have one n and the same points. Nothing is the same as nil.
func (s *Span) Same(o *Span) bool {
	sameNumber := func(x, y api.Whole) bool { return whole.Cmp(x, y) == 0 }
	sameRow := func(a, b []api.Whole) bool { return slices.EqualFunc(a, b, sameNumber) }
	return s.fits(o) && slices.EqualFunc(s.equations(), o.equations(), sameRow)
}

// Print answers its equations as a text, a line each; ErrArg, if the names are refused, or are not n.
func (s *Span) Print(vars []string) (string, api.Errno) {
	if affine.Names(vars) != api.OK || len(vars) != s.n {
		return "", api.ErrArg
	}
	var out strings.Builder
	for _, row := range s.equations() {
		line, _ := affine.Print(row, vars)
		out.WriteString(line)
		out.WriteString("\n")
	}
	return out.String(), api.OK
}

// fits says whether o is a span over as many variables. One that no call has answered has nothing made in it.
func (s *Span) fits(o *Span) bool { return o != nil && o.made != nil && o.n == s.n }
