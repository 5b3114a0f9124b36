package source

import "warden/api"

// What the next byte of a text has to be.
const (
	wantItem  = 0 // the letter of an item, or nothing more
	wantBrace = 1 // the brace behind an item's letter
	wantBody  = 2 // something of a body, or its end
	wantLock  = 3 // a lock's letter
	wantCell  = 4 // a cell's digit
)

// scanner goes over a text, a byte at a time. Whatever it has taken could still become a source.
type scanner struct {
	want  int
	items int    // the items that have begun
	open  []byte // what is open in the body, innermost last: `(`, a `(` whose bar has come as `|`, or `[`
}

// faultOfText gives the place of the first byte that cannot stand where it does, the length of a text that ends too early, or nowhere.
func faultOfText(src string) int {
	s := scanner{want: wantItem}
	for i := 0; i < len(src); i++ {
		taken := s.take(src[i])
		if !taken {
			return i
		}
	}
	if s.want != wantItem || s.items == 0 {
		return len(src)
	}
	return nowhere
}

// take goes on by a byte, or tells that it cannot stand here.
func (s *scanner) take(c byte) bool {
	switch s.want {
	case wantItem:
		return s.takeItem(c)
	case wantBrace:
		s.want = wantBody
		return c == '{'
	case wantLock:
		s.want = wantBody
		return c >= 'a' && c < 'a'+api.Locks
	case wantCell:
		s.want = wantBody
		return c >= '0' && c < '0'+api.Cells
	}
	return s.takeInBody(c)
}

func (s *scanner) takeItem(c byte) bool {
	if s.items >= api.MaxItems {
		return false
	}
	s.items++
	s.want = wantBrace
	return c == 't' || c == 'h' || isFunction(c)
}

func (s *scanner) takeInBody(c byte) bool {
	switch c {
	case '+', '-':
		s.want = wantLock
		return true
	case 'r', 'w':
		s.want = wantCell
		return true
	case '<', '>', 'z':
		return true
	case '(', '[':
		s.open = append(s.open, c)
		return true
	case '|':
		closed := s.shut('(')
		s.open = append(s.open, c)
		return closed
	case ')':
		return s.shut('|')
	case ']':
		return s.shut('[')
	case '}':
		s.want = wantItem
		return len(s.open) == 0
	}
	return isFunction(c)
}

// shut takes away what is open innermost, if it is the byte handed in.
func (s *scanner) shut(c byte) bool {
	last := len(s.open) - 1
	if last < 0 || s.open[last] != c {
		return false
	}
	s.open = s.open[:last]
	return true
}
