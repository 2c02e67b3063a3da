package queue

import "slices"

// list is a list whose items leave in any order.
type list[T any] struct {
	items []T
}

func (l *list[T]) add(item T) {
	l.items = append(l.items, item)
}

// remove removes item i and returns it, if there is one.
func (l *list[T]) remove(i int) (T, bool) {
	var item T
	if i < 0 || i >= len(l.items) {
		return item, false
	}
	item = l.items[i]
	l.items = slices.Delete(l.items, i, i+1)
	return item, true
}

// removeAll removes all items that are out, and returns their number.
func (l *list[T]) removeAll(out func(T) bool) int {
	before := len(l.items)
	l.items = slices.DeleteFunc(l.items, out)
	return before - len(l.items)
}
