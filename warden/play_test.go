package warden_test

import (
	"math/rand/v2"
	"strings"
	"testing"

	"warden/api"
	"warden/warden"
)

// What follows plays scripts by other means than the program's: frames are laid on a pile, each lock knows its owner, partners of brackets are looked for anew at each step.

type toyFrame struct {
	cpu, item, at int
}

type toy struct {
	items []api.Item
	ready []int         // of each item the place at which it is ready, or -1
	piles [][]*toyFrame // of each processor
	off   []bool
	owner map[byte]*toyFrame
}

func newToy(items []api.Item, cpus int) *toy {
	m := &toy{items: items, ready: make([]int, len(items)), piles: make([][]*toyFrame, cpus), off: make([]bool, cpus), owner: map[byte]*toyFrame{}}
	for i, item := range items {
		if item.Handler {
			m.ready[i] = -1
		}
	}
	return m
}

func (m *toy) top(c int) *toyFrame {
	if n := len(m.piles[c]); n > 0 {
		return m.piles[c][n-1]
	}
	return nil
}

func (m *toy) pop(c int) { m.piles[c] = m.piles[c][:len(m.piles[c])-1] }

// rest is the body from the frame's place on, with a blank at its end.
func (m *toy) rest(f *toyFrame) string { return m.items[f.item].Body[f.at:] + " " }

func (m *toy) handler(f *toyFrame) bool { return m.items[f.item].Handler }

func (m *toy) holdsAny(f *toyFrame) bool {
	for _, owner := range m.owner {
		if owner == f {
			return true
		}
	}
	return false
}

// closing is how far behind the bracket at the start of s its partner stands; for `(` and `|` that is the next bar or bracket of the same depth.
func closing(s string) int {
	depth := 0
	for i := 1; ; i++ {
		switch s[i] {
		case '(', '[':
			depth++
		case '|':
			if depth == 0 {
				return i
			}
		case ')', ']':
			if depth == 0 {
				return i
			}
			depth--
		}
	}
}

// opening is the place of the bracket to which the one at the end of s belongs.
func opening(s string) int {
	depth := 0
	for i := len(s) - 1; ; i-- {
		depth += strings.Count("])", s[i:i+1]) - strings.Count("[(", s[i:i+1])
		if depth == 0 {
			return i
		}
	}
}

func (m *toy) do(c int, order byte) byte {
	f := m.top(c)
	switch {
	case order == '.' || order == ',':
		if f == nil {
			return '_'
		}
		return m.step(c, f, order)
	case order == 'p':
		if f == nil || m.handler(f) || m.holdsAny(f) || m.off[c] {
			return '_'
		}
		m.ready[f.item] = f.at
		m.pop(c)
		return 'p'
	case int(order-'0') >= len(m.items):
		return '_'
	}
	n := int(order - '0')
	letter := byte('_')
	at := 0
	if m.items[n].Handler && (f == nil || !m.handler(f)) && !m.off[c] {
		letter = 'h'
	} else if f == nil && m.ready[n] >= 0 {
		letter = 't'
		at = m.ready[n]
		m.ready[n] = -1
	}
	if letter != '_' {
		m.piles[c] = append(m.piles[c], &toyFrame{cpu: c, item: n, at: at})
	}
	return letter
}

func (m *toy) step(c int, f *toyFrame, order byte) byte {
	s := m.rest(f)
	calm := !m.holdsAny(f) && (m.handler(f) || !m.off[c])
	switch s[0] {
	case ' ':
		if !calm {
			return 'E'
		}
		m.pop(c)
		return 'e'
	case '+':
		if m.owner[s[1]] != nil {
			return m.blocked(c, s[1])
		}
		m.owner[s[1]] = f
		f.at += 2
	case '-':
		if m.owner[s[1]] != f {
			return 'U'
		}
		delete(m.owner, s[1])
		f.at += 2
	case '<', '>':
		if m.handler(f) {
			return 'I'
		}
		m.off[c] = s[0] == '<'
		f.at++
	case 'z':
		if m.handler(f) || !calm {
			return 'S'
		}
		m.ready[f.item] = f.at + 1
		m.pop(c)
	case 'r', 'w':
		for d := range m.piles {
			if g := m.top(d); d != c && g != nil {
				if its := m.rest(g) + " "; its[1] == s[1] && (its[0] == 'w' || its[0] == 'r' && s[0] == 'w') {
					return 'R'
				}
			}
		}
		f.at += 2
	default:
		f.at = m.way(f, s, order)
	}
	return s[0]
}

// way is where brackets and bars lead.
func (m *toy) way(f *toyFrame, s string, order byte) int {
	switch {
	case s[0] == '|', (s[0] == '(' || s[0] == '[') && order == ',':
		return f.at + closing(s) + 1
	case s[0] == ']':
		return opening(m.items[f.item].Body[:f.at+1])
	}
	return f.at + 1
}

// blocked tells what happens to processor c at a lock that is held.
func (m *toy) blocked(c int, lock byte) byte {
	if m.owner[lock].cpu == c {
		return 'D'
	}
	passed := map[int]bool{}
	for {
		d := m.owner[lock].cpu
		if d == c {
			return 'W'
		}
		s := m.rest(m.top(d))
		if passed[d] || s[0] != '+' || m.owner[s[1]] == nil {
			return ':'
		}
		passed[d] = true
		lock = s[1]
	}
}

func (m *toy) play(script string) (trace string) {
	for i := 0; i < len(script) && !strings.ContainsAny(trace, "DUSEIWR"); i += 2 {
		trace += string(m.do(int(script[i]-'0'), script[i+1]))
	}
	return trace
}

// drawBody has mostly things that go well, so that traces get far.
func drawBody(r *rand.Rand, locks string, depth int) (body string) {
	for range r.IntN(5) {
		lock := string(locks[r.IntN(len(locks))])
		cell := string("0123"[r.IntN(4)])
		switch k := r.IntN(26); {
		case k < 9 && depth > 0:
			body += "+" + lock + drawBody(r, locks, depth-1) + "-" + lock
		case k < 12 && depth > 0:
			body += "(" + drawBody(r, locks, depth-1) + "|" + drawBody(r, locks, depth-1) + ")"
		case k < 15 && depth > 0:
			body += "[" + drawBody(r, locks, depth-1) + "]"
		case k < 17 && depth > 0:
			body += "<" + drawBody(r, locks, depth-1) + ">"
		case k < 21:
			body += "r" + cell
		case k < 23:
			body += "w" + cell
		case k < 24:
			body += "z"
		case k < 25:
			body += []string{"+", "-"}[r.IntN(2)] + lock
		default:
			body += []string{"<", ">"}[r.IntN(2)]
		}
	}
	return body
}

// drawTangle has items that take the same locks in other orders, so that many wait.
func drawTangle(r *rand.Rand) (src string) {
	for range 2 + r.IntN(3) {
		src += []string{"t{", "t{", "h{"}[r.IntN(3)]
		order := r.Perm(3 + r.IntN(2))[:3]
		for _, sign := range []string{"+", "-"} {
			for _, lock := range order {
				src += sign + string("abcd"[lock])
			}
		}
		src += "}"
	}
	return src
}

func drawSource(r *rand.Rand) string {
	if r.IntN(4) == 0 {
		return drawTangle(r)
	}
	for {
		src := ""
		locks := []string{"ab", "abc", "abcf"}[r.IntN(3)]
		for range 1 + r.IntN(4) {
			src += []string{"t{", "t{", "h{"}[r.IntN(3)] + drawBody(r, locks, 3) + "}"
		}
		if len(src) <= api.MaxText {
			return src
		}
	}
}

func drawScript(r *rand.Rand, cpus int) (script string) {
	for range r.IntN(80) {
		script += string("012"[r.IntN(cpus)]) + string("01230123456....................,,,,p7"[r.IntN(37)])
	}
	return script
}

func TestTracesOfDrawnScripts(t *testing.T) {
	r := rand.New(rand.NewPCG(5, 6))
	ends := map[byte]int{}
	for range 60000 {
		src := drawSource(r)
		cpus := 1 + r.IntN(api.MaxCpus)
		script := drawScript(r, cpus)
		items, e := warden.Unfold(src)
		if e != api.OK {
			t.Fatalf("Unfold(%q) = %d", src, e)
		}
		want := newToy(items, cpus).play(script)
		trace, e := warden.Run(src, cpus, script)
		if e != api.OK || trace != want {
			t.Fatalf("P6: Run(%q, %d, %q) = %q, %d, want %q", src, cpus, script, trace, e, want)
		}
		for i := range len(trace) {
			ends[trace[i]]++
		}
	}
	for _, letter := range []byte("DUSEIWRhtp_e+:-<>zrw(|)[]") {
		if ends[letter] < 100 {
			t.Errorf("only %d of the bytes of traces are %q", ends[letter], letter)
		}
	}
}
