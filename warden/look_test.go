package warden_test

import (
	"cmp"
	"math/rand/v2"
	"slices"
	"strings"
	"testing"

	"warden/api"
	"warden/warden"
)

// What follows looks for reports by other means than the program's: not state by state, but part by part of a body, with all that can come into a part at once.

// mood is what a state has beside its place: the letters of the locks held, in their order, and whether interrupts are off.
type mood struct {
	held string
	off  bool
}

type moods map[mood]bool

func (m moods) add(more moods) moods {
	sum := moods{}
	for _, each := range []moods{m, more} {
		for one := range each {
			sum[one] = true
		}
	}
	return sum
}

type looker struct {
	number int
	item   api.Item
	found  map[api.Report]bool
}

// part goes through the things from a place on, up to the end of what they stand in. It gives that place, and what comes there.
func (l *looker) part(at int, in moods) (int, moods) {
	for at < len(l.item.Body) {
		switch l.item.Body[at] {
		case '|', ')', ']':
			return at, in
		case '(':
			bar, first := l.part(at+1, in)
			end, second := l.part(bar+1, in)
			in = first.add(second)
			at = end + 1
		case '[':
			end := 0
			for before := -1; before < len(in); {
				before = len(in)
				last, out := l.part(at+1, in)
				in = in.add(out)
				end = last
			}
			at = end + 1
		case '+', '-', 'r', 'w':
			in = l.thing(at, in)
			at += 2
		default:
			in = l.thing(at, in)
			at++
		}
	}
	return at, in
}

// thing gives what comes behind a single thing, or the end, and notes what goes wrong there.
func (l *looker) thing(at int, in moods) moods {
	out := moods{}
	for one := range in {
		next, kind := l.after(l.item.Body[at:]+" ", one)
		if kind == 0 {
			out[next] = true
		} else {
			l.found[api.Report{Kind: kind, Item: l.number, Place: at}] = true
		}
	}
	return out
}

func (l *looker) after(rest string, one mood) (mood, int) {
	lock := rest[1:min(2, len(rest))]
	switch rest[0] {
	case '+':
		if strings.Contains(one.held, lock) {
			return one, api.Double
		}
		letters := strings.Split(one.held+lock, "")
		slices.Sort(letters)
		one.held = strings.Join(letters, "")
	case '-':
		if !strings.Contains(one.held, lock) {
			return one, api.Unheld
		}
		one.held = strings.Replace(one.held, lock, "", 1)
	case '<', '>':
		if l.item.Handler {
			return one, api.Flag
		}
		one.off = rest[0] == '<'
	case 'z':
		if one.held != "" || one.off || l.item.Handler {
			return one, api.Sleep
		}
	case ' ':
		if one.held != "" || one.off && !l.item.Handler {
			return one, api.End
		}
	}
	return one, 0
}

// look gives the reports of items by themselves.
func look(items []api.Item) (list []api.Report) {
	found := map[api.Report]bool{}
	for n, item := range items {
		l := looker{number: n, item: item, found: found}
		at, out := l.part(0, moods{mood{off: item.Handler}: true})
		l.thing(at, out)
	}
	for r := range found {
		list = append(list, r)
	}
	slices.SortFunc(list, func(a, b api.Report) int {
		return cmp.Or(a.Kind-b.Kind, a.Item-b.Item, a.Place-b.Place)
	})
	return list
}

// drawFaulty has many things that go wrong, and functions.
func drawFaulty(r *rand.Rand) string {
	for {
		src := ""
		for range 1 + r.IntN(3) {
			src += []string{"t{", "t{", "h{"}[r.IntN(3)] + []string{"", "A", "[A]"}[r.IntN(3)] + drawMess(r, 3) + []string{"", "(A|)"}[r.IntN(2)] + "}"
		}
		src += "A{" + drawMess(r, 2) + "}"
		if e, _ := warden.Check(src); e == api.OK {
			return src
		}
	}
}

func drawMess(r *rand.Rand, depth int) (body string) {
	for range r.IntN(6) {
		lock := string("abf"[r.IntN(3)])
		switch k := r.IntN(16); {
		case k < 2 && depth > 0:
			body += "(" + drawMess(r, depth-1) + "|" + drawMess(r, depth-1) + ")"
		case k < 4 && depth > 0:
			body += "[" + drawMess(r, depth-1) + "]"
		case k < 7:
			body += "(+" + lock + "|-" + lock + ")"
		case k < 10:
			body += "+" + lock
		case k < 13:
			body += "-" + lock
		default:
			body += []string{"<", ">", "z", "r0", "w3"}[r.IntN(5)]
		}
	}
	return body
}

func TestReportsOfDrawnSources(t *testing.T) {
	r := rand.New(rand.NewPCG(7, 9))
	kinds := map[int]int{}
	for n := range 8000 {
		src := drawSource(r)
		if n%2 == 0 {
			src = drawFaulty(r)
		}
		items, e := warden.Unfold(src)
		if e != api.OK {
			t.Fatalf("Unfold(%q) = %d", src, e)
		}
		got := aloneReports(t, src)
		if want := look(items); !slices.Equal(got, want) {
			t.Fatalf("P8: Analyse(%q) = %v, want %v", src, got, want)
		}
		for _, report := range got {
			mustShow(t, src, report)
			kinds[report.Kind]++
		}
	}
	for kind := api.Double; kind <= api.Flag; kind++ {
		if kinds[kind] < 500 {
			t.Errorf("only %d of the reports are of kind %d", kinds[kind], kind)
		}
	}
}

// What goes wrong with an item on a machine, but for a lock that is taken twice, goes wrong with it by itself.
func TestTracesOfDrawnScriptsAreReported(t *testing.T) {
	r := rand.New(rand.NewPCG(8, 11))
	ends := map[byte]int{}
	for range 20000 {
		src := drawSource(r)
		cpus := 1 + r.IntN(api.MaxCpus)
		script := drawScript(r, cpus)
		trace, e := warden.Run(src, cpus, script)
		if e != api.OK {
			t.Fatalf("P6: Run(%q, %d, %q) = %d", src, cpus, script, e)
		}
		last := " "
		if trace != "" {
			last = trace[len(trace)-1:]
		}
		kind := strings.Index("??USEI", last)
		if kind < 0 {
			continue
		}
		ends[last[0]]++
		list := aloneReports(t, src)
		if !slices.ContainsFunc(list, func(r api.Report) bool { return r.Kind == kind }) {
			t.Fatalf("P11: Run(%q, %d, %q) = %q; the reports are %v", src, cpus, script, trace, list)
		}
	}
	for _, letter := range []byte("USEI") {
		if ends[letter] < 100 {
			t.Errorf("only %d of the traces end with %q", ends[letter], letter)
		}
	}
}
