package machine

import "warden/steps"

// do does a command on processor c and gives its byte of the trace.
func (m *machine) do(c int, order byte) byte {
	if c < 0 || c >= len(m.processors) {
		return idle
	}
	switch order {
	case '.', ',':
		return m.step(c, order == ',')
	case 'p':
		return m.putAside(c)
	}
	return m.start(c, int(order)-'0')
}

// start lets a handler come, or a thread run.
func (m *machine) start(c int, n int) byte {
	if n < 0 || n >= len(m.items) {
		return idle
	}
	if m.items[n].handler {
		return m.interrupt(c, n)
	}
	p := m.processors[c]
	one := m.items[n]
	if p.thread.there || p.handler.there || !one.ready {
		return idle
	}
	state := one.code.Begin()
	state.Place = one.place
	m.processors[c].thread = frame{there: true, item: n, code: one.code, state: state}
	m.items[n].ready = false
	return 't'
}

func (m *machine) interrupt(c int, n int) byte {
	p := m.processors[c]
	if p.handler.there || p.thread.state.Off {
		return idle
	}
	code := m.items[n].code
	m.processors[c].handler = frame{there: true, item: n, code: code, state: code.Begin()}
	return 'h'
}

func (m *machine) putAside(c int) byte {
	p := m.processors[c]
	free := p.thread.state.Held.Empty()
	if !p.thread.there || p.handler.there || !free || p.thread.state.Off {
		return idle
	}
	m.makeReady(p.thread.item, p.thread.state.Place)
	m.processors[c].thread = frame{}
	return 'p'
}

// makeReady lets a thread go on later at a place.
func (m *machine) makeReady(n int, place int) {
	if n < 0 || n >= len(m.items) {
		return
	}
	m.items[n].ready = true
	m.items[n].place = place
}

// step does what stands at the place of the frame that works.
func (m *machine) step(c int, comma bool) byte {
	f := m.processors[c].working()
	if !f.there {
		return idle
	}
	hindrance := m.hindrance(c, f)
	if hindrance != steps.Fine {
		return hindrance
	}
	state, letter := f.code.Step(f.state, comma)
	f.state = state
	switch letter {
	case 'z':
		m.makeReady(f.item, state.Place)
		f = frame{}
	case steps.AtEnd:
		f = frame{}
	}
	m.processors[c].setWorking(f)
	return letter
}

// working gives the frame that works, or one that is not there.
func (p *processor) working() frame {
	if p.handler.there {
		return p.handler
	}
	return p.thread
}

// setWorking lays a frame in the place of the one that works.
func (p *processor) setWorking(f frame) {
	if p.handler.there {
		p.handler = f
	} else {
		p.thread = f
	}
}
