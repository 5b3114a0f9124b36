// Package steps knows what a thread or a handler does by itself, one step behind the other, as though it were alone.
package steps

import "warden/api"

// AtEnd is what stands at the end of a body. No text has it where a place is: there an `e` is a lock's letter, behind a `+` or a `-`.
const AtEnd = 'e'

// Fine stands where a letter would tell what goes wrong, and nothing does.
const Fine = 0

// Nothing stands where the number of a lock or cell would be, and none is named.
const Nothing = -1

// State is where an item stands: a place in its body, the locks that it holds, and whether interrupts are off.
type State struct {
	Place int
	Held  Held
	Off   bool
}

// Code is a body, made ready for steps.
type Code struct {
	handler bool
	body    string
	leads   []int // by the places of brackets and bars: where the way leads that does not go on behind them
}

// Of makes an item ready. Its body is one of a source, unfolded.
func Of(item api.Item) Code {
	return Code{handler: item.Handler, body: item.Body, leads: leadsOf(item.Body)}
}

// leadsOf looks for the partners once, so that a step costs the same however long the body is.
func leadsOf(body string) []int {
	leads := make([]int, len(body))
	open := []int{}
	for i := 0; i < len(body); i++ {
		c := body[i]
		last := len(open) - 1
		if last >= 0 && (c == '|' || c == ')' || c == ']') {
			partner := open[last]
			open = open[:last]
			leads[partner] = i + 1
			leads[i] = partner
		}
		if c == '(' || c == '[' || c == '|' {
			open = append(open, i)
		}
	}
	return leads
}

// Begin gives the state in which the item begins.
func (c Code) Begin() State {
	return State{Off: c.handler}
}

// End gives the place of the body's end, the highest there is.
func (c Code) End() int {
	return len(c.body)
}

// At gives the first byte of what stands at a place.
func (c Code) At(place int) byte {
	if place < 0 || place >= len(c.body) {
		return AtEnd
	}
	return c.body[place]
}

// Number gives the number of the lock or cell that is named at a place, or Nothing.
func (c Code) Number(place int) int {
	if place < 0 || place >= len(c.body)-1 {
		return Nothing
	}
	switch c.body[place] {
	case '+', '-':
		return int(c.body[place+1]) - 'a'
	case 'r', 'w':
		return int(c.body[place+1]) - '0'
	}
	return Nothing
}

// Step does what stands at the place, by the command `,` or else by `.`. It gives the state behind it, and the byte of the trace; where that tells of a fault, and at the end, all stays as it was.
func (c Code) Step(s State, comma bool) (State, byte) {
	fault := c.Fault(s)
	if fault != Fine {
		return s, fault
	}
	what := c.At(s.Place)
	return c.next(s, comma), what
}

// Fault gives the letter of what goes wrong if a step is done in a state, or Fine.
func (c Code) Fault(s State) byte {
	lock := c.Number(s.Place)
	holds := s.Held.Has(lock)
	free := s.Held.Empty()
	switch c.At(s.Place) {
	case '+':
		if holds {
			return 'D'
		}
	case '-':
		if !holds {
			return 'U'
		}
	case 'z':
		if c.handler || s.Off || !free {
			return 'S'
		}
	case '<', '>':
		if c.handler {
			return 'I'
		}
	case AtEnd:
		if !free || s.Off && !c.handler {
			return 'E'
		}
	}
	return Fine
}

// next gives the state behind a step that goes well.
func (c Code) next(s State, comma bool) State {
	at := s.Place
	what := c.At(at)
	switch what {
	case '+', '-':
		lock := c.Number(at)
		s.Held = s.Held.put(lock, what == '+')
		s.Place = at + 2
	case 'r', 'w':
		s.Place = at + 2
	case '<', '>':
		s.Off = what == '<'
		s.Place = at + 1
	case '(', '[':
		s.Place = at + 1
		if comma {
			s.Place = c.leads[at]
		}
	case '|', ']':
		s.Place = c.leads[at]
	case 'z', ')':
		s.Place = at + 1
	}
	return s
}
