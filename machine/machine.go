// Package machine plays sources on a machine of some processors, by scripts.
package machine

import (
	"warden/api"
	"warden/source"
	"warden/steps"
)

// nobody is the number of a processor where there is none.
const nobody = -1

// idle is the byte of a command that does nothing.
const idle = '_'

// item is a thread or a handler on the machine.
type item struct {
	handler bool
	code    steps.Code
	ready   bool // of a thread: whether it waits to run
	place   int  // where it goes on then
}

// frame is an item at work on a processor.
type frame struct {
	there bool
	item  int
	code  steps.Code
	state steps.State
}

// processor has at most the frame of a thread, and that of a handler above it. A frame that is gone leaves nothing behind: no locks held, interrupts not off.
type processor struct {
	thread  frame
	handler frame
}

// machine has as many processors as may be: those that no script names stay empty, and hinder none of the others.
type machine struct {
	items      []item
	processors [api.MaxCpus]processor
}

// Run plays a source by a script and gives the trace.
func Run(src string, cpus int, script string) (string, api.Errno) {
	if len(src) > api.MaxText || len(script) > api.MaxScript {
		return "", api.ErrLong
	}
	items, errno := source.Unfold(src)
	if errno != api.OK {
		return "", errno
	}
	if cpus < 1 || cpus > api.MaxCpus {
		return "", api.ErrArg
	}
	if !isScript(script, cpus) {
		return "", api.ErrScript
	}
	m := build(items)
	return m.play(script), api.OK
}

func isScript(script string, cpus int) bool {
	if len(script)%2 != 0 {
		return false
	}
	for i := 0; i+1 < len(script); i += 2 {
		c := int(script[i]) - '0'
		if c < 0 || c >= cpus || !isOrder(script[i+1]) {
			return false
		}
	}
	return true
}

// isOrder tells whether a byte can be the second of a command.
func isOrder(b byte) bool {
	return b == '.' || b == ',' || b == 'p' || b >= '0' && b < '0'+api.MaxItems
}

func build(items []api.Item) machine {
	m := machine{}
	for _, one := range items {
		code := steps.Of(one)
		m.items = append(m.items, item{handler: one.Handler, code: code, ready: !one.Handler})
	}
	return m
}

// play does the commands of a script, up to the first that goes wrong.
func (m *machine) play(script string) string {
	trace := []byte{}
	for i := 0; i+1 < len(script); i += 2 {
		letter := m.do(int(script[i])-'0', script[i+1])
		trace = append(trace, letter)
		if isLast(letter) {
			break
		}
	}
	return string(trace)
}

// isLast tells whether a byte ends the trace.
func isLast(letter byte) bool {
	switch letter {
	case 'D', 'U', 'S', 'E', 'I', 'W', 'R':
		return true
	}
	return false
}
