package mirror

// queue is a row of things that wait, the first one for its turn. Its zero value is empty.
type queue[T any] struct {
	list []T
}

func (q *queue[T]) put(x T) { q.list = append(q.list, x) }

// first is the one that has waited longest, if there is one.
func (q *queue[T]) first() (T, bool) {
	var none T
	if len(q.list) == 0 {
		return none, false
	}
	return q.list[0], true
}

// drop takes the first one away, where there is one.
func (q *queue[T]) drop() {
	var none T
	q.list[0] = none // what it leads to would be kept as long as the list's memory
	q.list = q.list[1:]
}
