package lang

import "rafter/api"

// fault is what is thrown where a text goes wrong, at its place, or where an expression has no value, which has none.
type fault struct {
	e  api.Errno
	at api.Place
}

// caught answers what do makes; or nothing, and the fault that was thrown deep within.
func caught[T any](do func() T) (out T, f fault) {
	defer func() {
		if thrown := recover(); thrown != nil {
			f = thrown.(fault)
		}
	}()
	return do(), fault{}
}
