package source

import "warden/api"

// names is how many names a function can have: A to H.
const names = 8

// part is an item as it stands in the text.
type part struct {
	letter byte
	at     int // the place of the letter in the text
	body   string
}

// function is a function of the source.
type function struct {
	there bool
	body  string // as it stands in the text
	done  bool   // whether it is unfolded
	fits  bool   // whether it is short enough, unfolded, to stand in a body
	text  string // the body, unfolded, if it fits
}

// program is a source taken apart.
type program struct {
	parts     []part
	functions [names]function
}

func isFunction(c byte) bool {
	return c >= 'A' && c < 'A'+names
}

// split takes apart a text whose form is right: there a `}` stands at the ends of items alone.
func split(src string) program {
	p := program{}
	begin := 0
	for i := 0; i < len(src); i++ {
		if src[i] == '}' && begin+2 <= i {
			p.add(part{letter: src[begin], at: begin, body: src[begin+2 : i]})
			begin = i + 1
		}
	}
	return p
}

func (p *program) add(one part) {
	p.parts = append(p.parts, one)
	if isFunction(one.letter) {
		p.functions[one.letter-'A'] = function{there: true, body: one.body}
	}
}

// faultOfNames gives the place of the first name that is given again or that no function has, or nowhere.
func (p *program) faultOfNames() int {
	seen := [names]bool{}
	for _, one := range p.parts {
		if isFunction(one.letter) {
			if seen[one.letter-'A'] {
				return one.at
			}
			seen[one.letter-'A'] = true
		}
		unknown := p.unknownName(one.body)
		if unknown != nowhere {
			return one.at + 2 + unknown
		}
	}
	return nowhere
}

// unknownName gives the place in a body of the first name that no function has, or nowhere.
func (p *program) unknownName(body string) int {
	for i := 0; i < len(body); i++ {
		c := body[i]
		if isFunction(c) && !p.functions[c-'A'].there {
			return i
		}
	}
	return nowhere
}

// unfoldFunctions tells whether all functions could be unfolded. Each round does at least one that is left, unless a function leads back to itself; so as many rounds as names are enough.
func (p *program) unfoldFunctions() bool {
	for round := 0; round < names; round++ {
		p.unfoldReady()
	}
	for _, f := range p.functions {
		if f.there && !f.done {
			return false
		}
	}
	return true
}

// unfoldReady builds on texts that are done, so that each function is unfolded only once: to go down into the names anew each time would take too long where many names come to few bytes.
func (p *program) unfoldReady() {
	for n := 0; n < names; n++ {
		f := p.functions[n]
		ready := p.allDone(f.body)
		if f.there && !f.done && ready {
			text, fits := p.unfold(f.body)
			f.done = true
			f.fits = fits
			f.text = text
			p.functions[n] = f
		}
	}
}

func (p *program) allDone(body string) bool {
	for i := 0; i < len(body); i++ {
		c := body[i]
		if isFunction(c) && !p.functions[c-'A'].done {
			return false
		}
	}
	return true
}

// unfold gives a body whose functions are done, unfolded, and whether it fits; it stops as soon as it does not, so that no text grows beyond measure.
func (p *program) unfold(body string) (string, bool) {
	text := []byte{}
	for i := 0; i < len(body); i++ {
		c := body[i]
		if isFunction(c) {
			f := p.functions[c-'A']
			if !f.fits {
				return "", false
			}
			text = append(text, f.text...)
		} else {
			text = append(text, c)
		}
		if len(text) > api.MaxBody {
			return "", false
		}
	}
	return string(text), true
}

// unfoldItems gives the threads and handlers, or the number of the first that does not fit; else that is nowhere.
func (p *program) unfoldItems() ([]api.Item, int) {
	items := []api.Item{}
	for _, one := range p.parts {
		if isFunction(one.letter) {
			continue
		}
		text, fits := p.unfold(one.body)
		if !fits {
			return nil, len(items)
		}
		items = append(items, api.Item{Handler: one.letter == 'h', Body: text})
	}
	return items, nowhere
}
