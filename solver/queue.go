package solver

// queue hands on what was put into it, what came first ahead of the others.
type queue[T any] struct {
	waiting []T
}

// put adds x behind all that wait.
func (q *queue[T]) put(x T) { q.waiting = append(q.waiting, x) }

// take takes away what waits at the front, and answers it and true; false, if nothing waits.
func (q *queue[T]) take() (T, bool) {
	if len(q.waiting) == 0 {
		var none T
		return none, false
	}
	front := q.waiting[0]
	q.waiting = q.waiting[1:]
	return front, true
}
