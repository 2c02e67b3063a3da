package hold

import "iter"

// pair is a key and its value, between two others of a ring.
type pair[K comparable, V any] struct {
	key          K
	value        V
	before, next *pair[K, V]
}

// ring links pairs, in an order, through a root that is none of them.
type ring[K comparable, V any] struct {
	root *pair[K, V]
}

func newRing[K comparable, V any]() ring[K, V] {
	root := &pair[K, V]{}
	root.before, root.next = root, root
	return ring[K, V]{root: root}
}

// all enumerates the pairs, first to last.
func (r *ring[K, V]) all() iter.Seq[*pair[K, V]] {
	return func(yield func(*pair[K, V]) bool) {
		for p := r.root.next; p != r.root; p = p.next {
			if !yield(p) {
				return
			}
		}
	}
}

// find returns the pair of a key, or nil.
func (r *ring[K, V]) find(key K) *pair[K, V] {
	for p := range r.all() {
		if p.key == key {
			return p
		}
	}
	return nil
}

// first returns the first pair, or nil.
func (r *ring[K, V]) first() *pair[K, V] {
	for p := range r.all() {
		return p
	}
	return nil
}

// addLast links a pair in as the last one.
func (r *ring[K, V]) addLast(p *pair[K, V]) {
	p.before, p.next = r.root.before, r.root
	p.before.next, p.next.before = p, p
}

// remove unlinks a pair.
func (r *ring[K, V]) remove(p *pair[K, V]) {
	p.before.next, p.next.before = p.next, p.before
}
