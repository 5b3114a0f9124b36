package machine

import "warden/steps"

// hindrance gives the letter of what keeps frame f, at work on processor c, from its step, as far as other frames do; or steps.Fine.
func (m *machine) hindrance(c int, f frame) byte {
	switch f.code.At(f.state.Place) {
	case '+':
		lock := f.code.Number(f.state.Place)
		return m.waiting(c, lock)
	case 'r', 'w':
		return m.racing(c, f)
	}
	return steps.Fine
}

// waiting tells what comes of it if processor c takes a lock.
func (m *machine) waiting(c int, lock int) byte {
	holder := m.holder(lock)
	if holder == nobody {
		return steps.Fine
	}
	if holder == c {
		return 'D'
	}
	if m.ring(c, lock) {
		return 'W'
	}
	return ':'
}

// holder gives the processor that holds a lock, or nobody. There is never more than one.
func (m *machine) holder(lock int) int {
	for c := 0; c < len(m.processors); c++ {
		byThread := m.processors[c].thread.state.Held.Has(lock)
		byHandler := m.processors[c].handler.state.Held.Has(lock)
		if byThread || byHandler {
			return c
		}
	}
	return nobody
}

// ring tells whether the processors that wait for each other, beginning with the one that holds the lock, lead back to c. They may lead to a ring without c, or to one that stands at a lock of its own, and then never end: so it asks no more often than there are processors.
func (m *machine) ring(c int, lock int) bool {
	for asked := 0; asked < len(m.processors); asked++ {
		holder := m.holder(lock)
		if holder == c {
			return true
		}
		lock = m.wanted(holder)
	}
	return false
}

// wanted gives the lock at whose `+` the frame that works on processor c stands, or steps.Nothing.
func (m *machine) wanted(c int) int {
	if c < 0 || c >= len(m.processors) {
		return steps.Nothing
	}
	f := m.processors[c].working()
	if f.code.At(f.state.Place) != '+' {
		return steps.Nothing
	}
	return f.code.Number(f.state.Place)
}

// racing gives `R`, if the frame that works on another processor stands at the same cell as f, and one of both writes it.
func (m *machine) racing(c int, f frame) byte {
	what := f.code.At(f.state.Place)
	cell := f.code.Number(f.state.Place)
	for other := 0; other < len(m.processors); other++ {
		g := m.processors[other].working()
		its := g.code.At(g.state.Place)
		itsCell := g.code.Number(g.state.Place)
		clash := its == 'w' || its == 'r' && what == 'w'
		if other != c && clash && itsCell == cell {
			return 'R'
		}
	}
	return steps.Fine
}
