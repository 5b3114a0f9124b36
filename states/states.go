// Package states finds the states that a thread or a handler can come to by itself.
package states

import "warden/steps"

// perPlace is how many states there are at one place: each lock held or not, interrupts on or off.
const perPlace = 2 * steps.Sets

// Reached is a state that the item can come to, and the step that leads to it first.
type Reached struct {
	State steps.State
	From  int  // the number of the state from which the step goes, always a lower one; that in which the item begins has its own
	Comma bool // whether the step is one by `,`
}

// Of gives all states that an item can come to, each once, in the order of how many steps it takes; the first is that in which it begins.
func Of(code steps.Code) []Reached {
	begin := code.Begin()
	reached := []Reached{{State: begin}}
	seen := make([]bool, (code.End()+1)*perPlace)
	mark(seen, begin)
	for i := 0; i < len(reached); i++ {
		for way := 0; way < 2; way++ {
			comma := way == 1
			// Where there is no step the state stays, and is seen already.
			next, _ := code.Step(reached[i].State, comma)
			fresh := mark(seen, next)
			if fresh {
				reached = append(reached, Reached{State: next, From: i, Comma: comma})
			}
		}
	}
	return reached
}

// mark notes that a state is seen, and tells whether it was not seen before.
func mark(seen []bool, s steps.State) bool {
	n := number(s)
	if n < 0 || n >= len(seen) || seen[n] {
		return false
	}
	seen[n] = true
	return true
}

// number gives each state another number, those of one place side by side.
func number(s steps.State) int {
	held := s.Held.Number()
	n := s.Place*perPlace + 2*held
	if s.Off {
		n++
	}
	return n
}
