package steps

import "warden/api"

// Sets is how many sets of locks there are.
const Sets = 1 << api.Locks

// Held is a set of locks: which of them are in it, by their numbers.
type Held [api.Locks]bool

// Has tells whether a lock is in the set.
func (h Held) Has(lock int) bool {
	return lock >= 0 && lock < len(h) && h[lock]
}

// Empty tells whether no lock is in the set.
func (h Held) Empty() bool {
	return h == Held{}
}

// Number gives each set another number below Sets: one bit for each lock, so that two sets have no lock in common just if their numbers have no bit in common.
func (h Held) Number() int {
	n := 0
	for _, in := range h {
		n *= 2
		if in {
			n++
		}
	}
	return n
}

// With gives the set with a lock in it.
func (h Held) With(lock int) Held {
	return h.put(lock, true)
}

// Or gives the set of all locks that are in one of two.
func (h Held) Or(more Held) Held {
	for lock, in := range more {
		h[lock] = h[lock] || in
	}
	return h
}

// put gives the set with a lock in it, or without it.
func (h Held) put(lock int, in bool) Held {
	if lock >= 0 && lock < len(h) {
		h[lock] = in
	}
	return h
}
