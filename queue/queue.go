// Package queue keeps what a search has yet to look at: layers 12 and 16 work off lists of what waits.
package queue

// Queue hands on what was put into it, what came first ahead of the others. As it is declared nothing waits.
type Queue[T any] struct {
	waiting []T
}

// Put adds x behind all that wait.
func (q *Queue[T]) Put(x T) { q.waiting = append(q.waiting, x) }

// Take takes away what waits at the front, and answers it and true; false, if nothing waits.
func (q *Queue[T]) Take() (T, bool) {
	if len(q.waiting) == 0 {
		var none T
		return none, false
	}
	front := q.waiting[0]
	q.waiting = q.waiting[1:]
	return front, true
}
