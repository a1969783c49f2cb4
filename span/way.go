package span

import (
	"slices"

	"rafter/api"
	"rafter/matrix"
	"rafter/ratio"
	"rafter/whole"
)

// way is one of the two ways in which a span over n variables is kept. What is too big is thrown as a panic with ErrTooBig.
type way interface {
	// lowest answers the one form of the same way. The numbers of what it is asked of may be of any length.
	lowest(n int) way
	// mirror answers the other way, in its one form. It is asked of the one form.
	mirror(n int) way
}

// equations say which rows the points meet. In their one form they are in echelon form; of the empty span the one row 0 .. 0 | 1.
type equations [][]api.Whole

// lifts say which points and steps the span is made of, lifted: (w x, -w) is the point x, (d, 0) the step d. A row makes 0 with them just if the point meets it, or the step goes along it; so rows and lifts are each other's kernels. Without a point there is nothing, whatever steps there are. In their one form they are the base and the steps, or none.
type lifts [][]api.Whole

// build answers the span that a way says. What was thrown deep within is caught here.
func build(n int, w way) (s *Span, e api.Errno) {
	defer func() {
		if fault := recover(); fault != nil {
			e = fault.(api.Errno)
		}
	}()
	low := w.lowest(n)
	return &Span{n: n, made: low, twin: low.mirror(n)}, api.OK
}

// told answers rows that a matrix became; it throws what the matrix refused.
func told(rows [][]api.Whole, e api.Errno) [][]api.Whole {
	if e != api.OK {
		panic(e)
	}
	return rows
}

// nothing answers the equations that no point meets.
func nothing(n int) equations {
	row := make([]api.Whole, n+1)
	row[n] = whole.Of(1)
	return equations{row}
}

// Rows that no point meets are told shortly, however long their echelon form is: so it is asked for only where there is a point.
func (r equations) lowest(n int) way {
	none := nothing(n)
	if torn, _ := matrix.Inside(r, n+1, none[0]); torn {
		return none
	}
	return equations(told(matrix.Echelon(r, n+1)))
}

func (r equations) mirror(n int) way {
	factors, point := make([][]api.Whole, len(r)), make([]api.Ratio, n)
	for i, row := range r {
		at := lead(row)
		if at == n {
			return lifts{}
		}
		factors[i] = row[:n]
		point[at], _ = ratio.Of(row[n], row[at])
	}
	out := lifts{nil}
	for _, step := range told(matrix.Kernel(factors, n)) {
		out = append(out, append(step, api.Whole{}))
	}
	out[0] = based(lifted(point), out[1:])
	return out
}

// The one form is worked out of the equations: by the points' differences the numbers on the way would be up to twice as long.
func (l lifts) lowest(n int) way {
	if !slices.ContainsFunc(l, func(x []api.Whole) bool { return other(x[n]) }) {
		return lifts{}
	}
	return equations(told(matrix.Kernel(l, n+1))).mirror(n)
}

func (l lifts) mirror(n int) way {
	if len(l) == 0 {
		return nothing(n)
	}
	return equations(told(matrix.Kernel(l, n+1)))
}
