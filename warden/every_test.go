package warden_test

import (
	"fmt"
	"math/rand/v2"
	"strings"
	"testing"

	"warden/api"
	"warden/warden"
)

// What follows plays all scripts of small sources, as far as they lead to states of the machine that are not known yet; so that it tells of every script, not of some that are drawn.

// key writes down all that the machine's next steps hang on.
func (m *toy) key() string {
	s := fmt.Sprint(m.ready, m.off)
	for _, pile := range m.piles {
		s += ";"
		for _, f := range pile {
			s += fmt.Sprint(" ", f.item, "@", f.at)
			for _, lock := range []byte("abcdef") {
				if m.owner[lock] == f {
					s += string(lock)
				}
			}
		}
	}
	return s
}

// everyEnd gives for each letter that ends a trace of a source a script that leads to it.
func everyEnd(items []api.Item, cpus int) map[byte]string {
	commands := []string{}
	for c := range cpus {
		for _, order := range []byte("01234567"[:len(items)] + ".,p") {
			commands = append(commands, string([]byte{byte('0' + c), order}))
		}
	}
	ends := map[byte]string{}
	known := map[string]bool{newToy(items, cpus).key(): true}
	scripts := []string{""}
	for i := 0; i < len(scripts); i++ {
		for _, command := range commands {
			m := newToy(items, cpus)
			script := scripts[i] + command
			trace := m.play(script)
			last := trace[len(trace)-1]
			if strings.Contains("DUSEIWR", string(last)) {
				ends[last] = script
			} else if k := m.key(); !known[k] {
				known[k] = true
				scripts = append(scripts, script)
			}
		}
	}
	return ends
}

func drawSmall(r *rand.Rand) (src string) {
	for range 2 {
		src += []string{"t{", "h{"}[r.IntN(2)]
		for range r.IntN(3) {
			src += []string{"+aw0-a", "+br0-b", "+a+b-b-a", "+b+a-a-b", "<+a>-a", "<+b-b>", "z", "w1", "(+a|)", "-a", "<", "+a"}[r.IntN(12)]
		}
		src += "}"
	}
	return src
}

func TestEveryTraceIsReported(t *testing.T) {
	sources := []string{"t{+a-a}h{+a-a}", "t{<+a-a>}h{+a-a}", "t{+a+b-b-a}t{+b+a-a-b}", "t{+a-a}h{+b-b}", "t{<+aw0-a>}h{+aw0-a}", "t{+a-a}t{<+b+a-a-b>}h{+b-b}", "t{+a-a}t{+b-b}h{+b-b}h{+a-a}"}
	r := rand.New(rand.NewPCG(12, 13))
	for range 400 {
		sources = append(sources, drawSmall(r))
	}
	ends := map[byte]int{}
	for n, src := range sources {
		items, e := warden.Unfold(src)
		if e != api.OK {
			t.Fatalf("Unfold(%q) = %d", src, e)
		}
		list := allReports(t, src)
		cpus := 2
		if n%50 == 0 {
			cpus = 3
		}
		for last, script := range everyEnd(items, cpus) {
			ends[last]++
			trace, e := warden.Run(src, cpus, script)
			if e != api.OK || trace == "" || trace[len(trace)-1] != last {
				t.Fatalf("P6: Run(%q, %d, %q) = %q, %d, want it to end with %q", src, cpus, script, trace, e, last)
			}
			if !told(list, last) {
				t.Fatalf("P11: Run(%q, %d, %q) = %q; the reports are %v", src, cpus, script, trace, list)
			}
		}
		if len(list) == 0 {
			ends[' ']++
		}
	}
	for _, letter := range []byte("DUSEIWR ") {
		if ends[letter] < 10 {
			t.Errorf("only %d of the sources have traces that end with %q", ends[letter], letter)
		}
	}
}
