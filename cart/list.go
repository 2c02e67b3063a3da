package cart

// list is an append-only list.
type list[T any] struct {
	items []T
}

// add appends an item and returns its number.
func (l *list[T]) add(item T) int {
	l.items = append(l.items, item)
	return len(l.items) - 1
}

// at returns item i itself, or nil if there is none.
func (l *list[T]) at(i int) *T {
	if i < 0 || i >= len(l.items) {
		return nil
	}
	return &l.items[i]
}

func (l *list[T]) size() int {
	return len(l.items)
}
