package steps

import "warden/api"

// Held is a set of locks: which of them are in it, by their numbers.
type Held [api.Locks]bool

// Has tells whether a lock is in the set.
func (h Held) Has(lock int) bool {
	return lock >= 0 && lock < len(h) && h[lock]
}

// Empty tells whether no lock is in the set.
func (h Held) Empty() bool {
	return h == Held{}
}

// put gives the set with a lock in it, or without it.
func (h Held) put(lock int, in bool) Held {
	if lock >= 0 && lock < len(h) {
		h[lock] = in
	}
	return h
}
