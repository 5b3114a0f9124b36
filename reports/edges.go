package reports

import (
	"warden/api"
	"warden/states"
	"warden/steps"
)

// edges says of which lock there is an edge to which, by their numbers.
type edges [api.Locks][api.Locks]bool

// Edges gives the edges between the locks of a source.
func Edges(src string) ([]api.Edge, api.Errno) {
	all, errno := lookThrough(src)
	if errno != api.OK {
		return nil, errno
	}
	list := []api.Edge{}
	for from, row := range edgesOf(all) {
		for to, there := range row {
			if there {
				list = append(list, api.Edge{From: from, To: to})
			}
		}
	}
	return list, api.OK
}

// edgesOf finds the edges: those of single items, and those that arise where a handler comes above a thread.
func edgesOf(all []known) edges {
	found := edges{}
	open := steps.Held{}  // what threads hold where a handler can come
	taken := steps.Held{} // what handlers take
	for _, one := range all {
		for _, at := range one.reached {
			held := at.State.Held
			takes := one.takes(at)
			found = found.with(held, takes)
			if one.handler {
				taken = taken.Or(takes)
			} else if !at.State.Off {
				open = open.Or(held)
			}
		}
	}
	return found.with(open, taken)
}

// takes gives the lock that is taken by a step from a state. Where the item holds it already there is none: that is a Double, and no edge.
func (k known) takes(at states.Reached) steps.Held {
	empty := steps.Held{}
	place := at.State.Place
	lock := k.code.Number(place)
	if k.code.At(place) != '+' || at.State.Held.Has(lock) {
		return empty
	}
	return empty.With(lock)
}

// with adds the edges from each lock of one set to each of another.
func (e edges) with(from, to steps.Held) edges {
	for l, first := range from {
		for m, second := range to {
			if first && second {
				e[l][m] = true
			}
		}
	}
	return e
}

// far says from which lock one or more edges lead to which. The lock in the middle is in the outermost loop, for then one pass is enough: what leads by the locks below it is known already.
func (e edges) far() edges {
	for middle := range e {
		for from := range e {
			for to := range e {
				if e[from][middle] && e[middle][to] {
					e[from][to] = true
				}
			}
		}
	}
	return e
}

// rings gives the reports of locks from which edges lead back to them.
func rings(all []known) []api.Report {
	reports := []api.Report{}
	near := edgesOf(all)
	for lock, row := range near.far() {
		if row[lock] {
			reports = append(reports, api.Report{Kind: api.Ring, Item: nobody, Place: lock})
		}
	}
	return reports
}
