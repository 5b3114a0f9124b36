package reports

import (
	"warden/api"
	"warden/source"
	"warden/states"
	"warden/steps"
)

// cpu is the number of the one processor on which a script is played.
const cpu = '0'

// Show gives a script by which what a report tells of happens.
func Show(src string, r api.Report) (string, api.Errno) {
	items, errno := source.Unfold(src)
	if errno != api.OK {
		return "", errno
	}
	if r.Item < 0 || r.Item >= len(items) {
		return "", api.ErrNone
	}
	one := knownOf(items[r.Item])
	for i, at := range one.reached {
		kind := kindAt(one.code, at.State)
		if kind != none && kind == r.Kind && at.State.Place == r.Place {
			way := wayTo(one.reached, i)
			return script(r.Item, one.code, way), api.OK
		}
	}
	return "", api.ErrNone
}

// wayTo gives the states that lead to one of those that were reached, from the second to it. It is a shortest way, and goes through no state twice, so that its script stays far below what a script may have.
func wayTo(reached []states.Reached, last int) []states.Reached {
	back := []states.Reached{}
	for i := last; i > 0 && i < len(reached); i = reached[i].From {
		back = append(back, reached[i])
	}
	way := []states.Reached{}
	for i := len(back) - 1; i >= 0; i-- {
		way = append(way, back[i])
	}
	return way
}

// script goes along a way, and does one step more: the one that goes wrong.
func script(item int, code steps.Code, way []states.Reached) string {
	digit := byte('0' + item)
	commands := []byte{cpu, digit}
	place := code.Begin().Place
	for _, one := range way {
		order := byte('.')
		if one.Comma {
			order = ','
		}
		commands = append(commands, cpu, order)
		// A thread that sleeps leaves the processor, and must be called again.
		if code.At(place) == 'z' {
			commands = append(commands, cpu, digit)
		}
		place = one.State.Place
	}
	commands = append(commands, cpu, '.')
	return string(commands)
}
