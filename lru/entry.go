package lru

// entry is a key with its value, and those that stand beside it in a ring.
type entry[K comparable, V any] struct {
	key           K
	value         V
	ahead, behind *entry[K, V]
}

// close makes a ring of this one alone.
func (e *entry[K, V]) close() {
	e.ahead, e.behind = e, e
}

// stand puts one that is in no ring ahead of another one.
func (e *entry[K, V]) stand(next *entry[K, V]) {
	e.ahead, e.behind = next.ahead, next
	e.ahead.behind, e.behind.ahead = e, e
}

// leave takes it out of its ring.
func (e *entry[K, V]) leave() {
	e.ahead.behind, e.behind.ahead = e.behind, e.ahead
}
