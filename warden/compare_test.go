package warden_test

import (
	"math/rand/v2"
	"regexp"
	"strings"
	"testing"

	"warden/api"
	"warden/warden"
)

// What follows judges texts by other ways than the program's, slow ones that keep close to the words of the document.

var (
	simple = regexp.MustCompile(`[+-][a-f]|[rw][0-3]|[<>z]`)
	nested = regexp.MustCompile(`\(\.*\|\.*\)|\[\.*\]`)
	whole  = regexp.MustCompile(`^([thA-H]\{\.*\}){1,8}$`)
)

// isSource shrinks whatever can stand in a body to a dot, from the inside out.
func isSource(s string) bool {
	if strings.Contains(s, ".") {
		return false
	}
	b := []byte(simple.ReplaceAllString(s, "."))
	for i, c := range b {
		if c >= 'A' && c <= 'H' && (i+1 == len(b) || b[i+1] != '{') {
			b[i] = '.'
		}
	}
	for nested.Match(b) {
		b = nested.ReplaceAll(b, []byte("."))
	}
	return whole.Match(b)
}

// canBecomeSource tries ways to go on behind s.
func canBecomeSource(s string) bool {
	if s == "" {
		return true
	}
	ends := []string{""}
	for n := strings.Count(s, "(") + strings.Count(s, "["); n > 0; n-- {
		for _, end := range ends {
			ends = append(ends, ")"+end, "|)"+end, "]"+end)
		}
	}
	for _, first := range []string{"", "{", "a", "0"} {
		for _, end := range ends {
			if isSource(s+first+end+"}") || isSource(s+first+end) {
				return true
			}
		}
	}
	return false
}

func TestCheckTellsTheFirstWrongByte(t *testing.T) {
	seen := 0
	starts := []string{""}
	for len(starts) > 0 {
		start := starts[0]
		starts = starts[1:]
		e, at := warden.Check(start)
		if !isSource(start) && (e != api.ErrText || at != len(start)) || isSource(start) && e == api.ErrText {
			t.Fatalf("P3: Check(%q) = %d, %d", start, e, at)
		}
		for _, c := range "tA{}(|)[]+ar0zx" {
			next := start + string(c)
			can := canBecomeSource(next)
			e, at := warden.Check(next + "?")
			if can && (e != api.ErrText || at != len(next)) || !can && (e != api.ErrText || at != len(start)) {
				t.Fatalf("P3: Check(%q) = %d, %d; that %q can become a source is %v", next+"?", e, at, next, can)
			}
			if can && len(next) < 6 {
				starts = append(starts, next)
			}
			seen++
		}
	}
	if seen < 2000 {
		t.Errorf("only %d texts were looked at", seen)
	}
}

// sketch is a source without errors of form, item by item.
type sketch struct {
	letters []byte
	bodies  []string
}

func drawSketch(r *rand.Rand) (s sketch) {
	for range 1 + r.IntN(api.MaxItems) {
		letter := "thABCDEFGH"[r.IntN(10)]
		if strings.IndexByte(string(s.letters), letter) >= 0 && r.IntN(8) > 0 {
			letter = "th"[r.IntN(2)]
		}
		body := ""
		for range r.IntN(7) {
			body += []string{"A", "B", "C", "D", "E", "F", "G", "H", "A", "B", "+a", "(|B)", zs(30)}[r.IntN(13)]
		}
		// Names that mostly point to later letters: else nearly every sketch would lead back to itself.
		if letter <= 'H' && r.IntN(8) > 0 {
			body = strings.Map(func(c rune) rune {
				if c >= 'A' && c <= rune(letter) {
					return 'z'
				}
				return c
			}, body)
		}
		s.letters = append(s.letters, letter)
		s.bodies = append(s.bodies, body)
	}
	if r.IntN(3) > 0 {
		s.addMissing()
	}
	return s
}

// addMissing gives each name that is used and not there an item, while there is room.
func (s *sketch) addMissing() {
	for _, c := range "ABCDEFGH" {
		if strings.ContainsRune(strings.Join(s.bodies, ""), c) && !strings.ContainsRune(string(s.letters), c) && len(s.letters) < api.MaxItems {
			s.letters = append(s.letters, byte(c))
			s.bodies = append(s.bodies, strings.Repeat("r0", 4*int(c-'A')))
		}
	}
}

func (s *sketch) text() (src string) {
	for i, letter := range s.letters {
		src += string(letter) + "{" + s.bodies[i] + "}"
	}
	return src
}

func (s *sketch) body(name byte) string {
	return s.bodies[strings.IndexByte(string(s.letters), name)]
}

// leadsTo follows names from a body down to a depth that no way without a round reaches.
func (s *sketch) leadsTo(body string, name byte, depth int) bool {
	for i := range len(body) {
		if c := body[i]; c == name || c >= 'A' && c <= 'H' && depth > 0 && s.leadsTo(s.body(c), name, depth-1) {
			return true
		}
	}
	return false
}

func (s *sketch) unfolded(body string) (text string) {
	for i := range len(body) {
		if c := body[i]; c >= 'A' && c <= 'H' {
			text += s.unfolded(s.body(c))
		} else {
			text += string(c)
		}
	}
	return text
}

func faultOfNames(src string) int {
	for i := range len(src) {
		c := src[i]
		if c < 'A' || c > 'H' {
			continue
		}
		begins := src[i+1] == '{'
		if begins && strings.Contains(src[:i], string(c)+"{") || !begins && !strings.Contains(src, string(c)+"{") {
			return i
		}
	}
	return -1
}

func (s *sketch) judge(src string) (items []api.Item, e api.Errno, at int) {
	if len(src) > api.MaxText {
		return nil, api.ErrLong, 0
	}
	if at := faultOfNames(src); at >= 0 {
		return nil, api.ErrName, at
	}
	for i, letter := range s.letters {
		if letter <= 'H' && s.leadsTo(s.bodies[i], letter, 8) {
			return nil, api.ErrRound, 0
		}
	}
	for i, letter := range s.letters {
		if letter > 'H' {
			items = append(items, api.Item{Handler: letter == 'h', Body: s.unfolded(s.bodies[i])})
		}
	}
	for n, item := range items {
		if len(item.Body) > api.MaxBody {
			return nil, api.ErrBig, n
		}
	}
	return items, api.OK, 0
}

func TestNamesRoundsAndLengthsOfDrawnSources(t *testing.T) {
	r := rand.New(rand.NewPCG(1, 2))
	var answers [api.ErrNone + 1]int
	for range 50000 {
		s := drawSketch(r)
		src := s.text()
		items, e, at := s.judge(src)
		answers[e]++
		if gotE, gotAt := warden.Check(src); gotE != e || gotAt != at {
			t.Fatalf("P3: Check(%q) = %d, %d, want %d, %d", src, gotE, gotAt, e, at)
		}
		got, gotE := warden.Unfold(src)
		if gotE != e || len(got) != len(items) {
			t.Fatalf("P4: Unfold(%q) = %v, %d, want %v, %d", src, got, gotE, items, e)
		}
		for i := range got {
			if got[i] != items[i] {
				t.Fatalf("P4: Unfold(%q) = %v, want %v", src, got, items)
			}
		}
	}
	for _, e := range []api.Errno{api.OK, api.ErrLong, api.ErrName, api.ErrRound, api.ErrBig} {
		if answers[e] < 50 {
			t.Errorf("only %d of the drawn sources have the answer %d", answers[e], e)
		}
	}
}
