package warden_test

import (
	"cmp"
	"math/rand/v2"
	"slices"
	"strings"
	"testing"

	"warden/api"
	"warden/warden"
)

// What follows looks for reports by other means than the program's: not state by state, but part by part of a body, with all that can come into a part at once.

// mood is what a state has beside its place: the letters of the locks held, in their order, and whether interrupts are off.
type mood struct {
	held string
	off  bool
}

type moods map[mood]bool

func (m moods) add(more moods) moods {
	sum := moods{}
	for _, each := range []moods{m, more} {
		for one := range each {
			sum[one] = true
		}
	}
	return sum
}

type looker struct {
	number int
	item   api.Item
	found  map[api.Report]bool
	came   map[int]moods // by the places of single things, and of the end; all that comes to a bracket or bar comes to one of these too
}

// part goes through the things from a place on, up to the end of what they stand in. It gives that place, and what comes there.
func (l *looker) part(at int, in moods) (int, moods) {
	for at < len(l.item.Body) {
		switch l.item.Body[at] {
		case '|', ')', ']':
			return at, in
		case '(':
			bar, first := l.part(at+1, in)
			end, second := l.part(bar+1, in)
			in = first.add(second)
			at = end + 1
		case '[':
			end := 0
			for before := -1; before < len(in); {
				before = len(in)
				last, out := l.part(at+1, in)
				in = in.add(out)
				end = last
			}
			at = end + 1
		case '+', '-', 'r', 'w':
			in = l.thing(at, in)
			at += 2
		default:
			in = l.thing(at, in)
			at++
		}
	}
	return at, in
}

// thing gives what comes behind a single thing, or the end, and notes what goes wrong there.
func (l *looker) thing(at int, in moods) moods {
	out := moods{}
	l.came[at] = l.came[at].add(in)
	for one := range in {
		next, kind := l.after(l.item.Body[at:]+" ", one)
		if kind == 0 {
			out[next] = true
		} else {
			l.found[api.Report{Kind: kind, Item: l.number, Place: at}] = true
		}
	}
	return out
}

func (l *looker) after(rest string, one mood) (mood, int) {
	lock := rest[1:min(2, len(rest))]
	switch rest[0] {
	case '+':
		if strings.Contains(one.held, lock) {
			return one, api.Double
		}
		letters := strings.Split(one.held+lock, "")
		slices.Sort(letters)
		one.held = strings.Join(letters, "")
	case '-':
		if !strings.Contains(one.held, lock) {
			return one, api.Unheld
		}
		one.held = strings.Replace(one.held, lock, "", 1)
	case '<', '>':
		if l.item.Handler {
			return one, api.Flag
		}
		one.off = rest[0] == '<'
	case 'z':
		if one.held != "" || one.off || l.item.Handler {
			return one, api.Sleep
		}
	case ' ':
		if one.held != "" || one.off && !l.item.Handler {
			return one, api.End
		}
	}
	return one, 0
}

// visit is a state at a single thing or at the end.
type visit struct {
	item api.Item
	n    int
	mood mood
	at   string // the thing
}

// look gives the reports of items, in their order, and the visits.
func look(items []api.Item) (list []api.Report, all []visit) {
	found := map[api.Report]bool{}
	for n, item := range items {
		l := looker{number: n, item: item, found: found, came: map[int]moods{}}
		at, out := l.part(0, moods{mood{off: item.Handler}: true})
		l.thing(at, out)
		for place, ms := range l.came {
			for m := range ms {
				rest := item.Body[place:]
				all = append(all, visit{item: item, n: n, mood: m, at: rest[:min(2, len(rest))]})
			}
		}
	}
	lines := lookEdges(all)
	for lock := range api.Locks {
		if slices.Contains(lookFrom(lines, lock, nil), lock) {
			found[ring(lock)] = true
		}
	}
	for cell := range api.Cells {
		if lookRace(all, string("0123"[cell])) {
			found[race(cell)] = true
		}
	}
	for r := range found {
		list = append(list, r)
	}
	slices.SortFunc(list, func(a, b api.Report) int {
		return cmp.Or(a.Kind-b.Kind, a.Item-b.Item, a.Place-b.Place)
	})
	return list, all
}

// lookEdges asks of each two locks whether there is an edge.
func lookEdges(all []visit) (list []api.Edge) {
	for from := range api.Locks {
		for to := range api.Locks {
			l, m := string("abcdef"[from]), string("abcdef"[to])
			takes := func(v visit) bool { return v.at == "+"+m && !strings.Contains(v.mood.held, m) }
			holds := func(v visit) bool { return strings.Contains(v.mood.held, l) }
			alone := slices.ContainsFunc(all, func(v visit) bool { return takes(v) && holds(v) })
			below := slices.ContainsFunc(all, func(v visit) bool { return !v.item.Handler && !v.mood.off && holds(v) })
			above := slices.ContainsFunc(all, func(v visit) bool { return v.item.Handler && takes(v) })
			if alone || below && above {
				list = append(list, api.Edge{From: from, To: to})
			}
		}
	}
	return list
}

// lookFrom gives the locks to which one or more edges lead, those that are passed already left out.
func lookFrom(lines []api.Edge, lock int, passed []int) []int {
	for _, edge := range lines {
		if edge.From == lock && !slices.Contains(passed, edge.To) {
			passed = lookFrom(lines, edge.To, append(passed, edge.To))
		}
	}
	return passed
}

func lookRace(all []visit, cell string) bool {
	for _, v := range all {
		for _, u := range all {
			if v.at == "w"+cell && (u.at == "w"+cell || u.at == "r"+cell) && !strings.ContainsAny(v.mood.held, u.mood.held) && (v.n != u.n || v.item.Handler) {
				return true
			}
		}
	}
	return false
}

// drawFaulty has many things that go wrong, and functions.
func drawFaulty(r *rand.Rand) string {
	for {
		src := ""
		for range 1 + r.IntN(3) {
			src += []string{"t{", "t{", "h{"}[r.IntN(3)] + []string{"", "A", "[A]"}[r.IntN(3)] + drawMess(r, 3) + []string{"", "(A|)"}[r.IntN(2)] + "}"
		}
		src += "A{" + drawMess(r, 2) + "}"
		if e, _ := warden.Check(src); e == api.OK {
			return src
		}
	}
}

func drawMess(r *rand.Rand, depth int) (body string) {
	for range r.IntN(6) {
		lock := string("abf"[r.IntN(3)])
		switch k := r.IntN(16); {
		case k < 2 && depth > 0:
			body += "(" + drawMess(r, depth-1) + "|" + drawMess(r, depth-1) + ")"
		case k < 4 && depth > 0:
			body += "[" + drawMess(r, depth-1) + "]"
		case k < 7:
			body += "(+" + lock + "|-" + lock + ")"
		case k < 10:
			body += "+" + lock
		case k < 13:
			body += "-" + lock
		default:
			body += []string{"<", ">", "z", "r0", "w3"}[r.IntN(5)]
		}
	}
	return body
}

func TestReportsOfDrawnSources(t *testing.T) {
	r := rand.New(rand.NewPCG(7, 9))
	kinds := map[int]int{}
	none := 0
	for n := range 9000 {
		src := drawSource(r)
		switch n % 3 {
		case 0:
			src = drawFaulty(r)
		case 1:
			src = drawCareful(r)
		}
		items, e := warden.Unfold(src)
		if e != api.OK {
			t.Fatalf("Unfold(%q) = %d", src, e)
		}
		want, visits := look(items)
		got := allReports(t, src)
		if !slices.Equal(got, want) {
			t.Fatalf("P8, P10: Analyse(%q) = %v, want %v", src, got, want)
		}
		lines, e := warden.Edges(src)
		if wanted := lookEdges(visits); e != api.OK || !slices.Equal(lines, wanted) {
			t.Fatalf("P10: Edges(%q) = %v, %d, want %v", src, lines, e, wanted)
		}
		for _, report := range got {
			if report.Kind <= api.Flag {
				mustShow(t, src, report)
			}
			kinds[report.Kind]++
		}
		if len(got) == 0 && len(lines) > 0 {
			none++
		}
	}
	for kind := api.Double; kind <= api.Race; kind++ {
		if kinds[kind] < 500 {
			t.Errorf("only %d of the reports are of kind %d", kinds[kind], kind)
		}
	}
	if none < 100 {
		t.Errorf("only %d of the sources have edges and no reports", none)
	}
}

// drawCareful has no fault in any item by itself, and few between them: mostly one order of the locks, and a lock for each cell.
func drawCareful(r *rand.Rand) string {
	for {
		src := ""
		for range 2 + r.IntN(3) {
			handler := r.IntN(3) == 0
			if handler {
				src += "h{"
			} else {
				src += "t{"
			}
			src += drawNest(r, r.IntN(2), handler) + "}"
		}
		if len(src) <= api.MaxText {
			return src
		}
	}
}

// drawNest takes locks from a number on.
func drawNest(r *rand.Rand, from int, handler bool) (body string) {
	for range 1 + r.IntN(2) {
		lock := from + r.IntN(3)
		if lock > 4 {
			continue
		}
		name := string("abcde"[lock])
		inner := drawNest(r, lock+1, handler)
		if r.IntN(2) == 0 {
			inner += []string{"r", "w"}[r.IntN(2)] + string("01233"[lock])
		}
		part := "+" + name + inner + "-" + name
		if !handler && r.IntN(4) > 0 && from < 2 {
			part = "<" + part + ">"
		}
		body += []string{part, part, "(" + part + "|)", "[" + part + "]"}[r.IntN(4)]
	}
	return body
}

// told tells whether there is a report for the letter that ends a trace.
func told(list []api.Report, letter byte) bool {
	kinds := map[byte][]int{'D': {api.Double, api.Ring}, 'U': {api.Unheld}, 'S': {api.Sleep}, 'E': {api.End}, 'I': {api.Flag}, 'W': {api.Ring}, 'R': {api.Race}}[letter]
	return slices.ContainsFunc(list, func(r api.Report) bool { return slices.Contains(kinds, r.Kind) })
}

// What goes wrong on a machine is told by a report.
func TestTracesOfDrawnScriptsAreReported(t *testing.T) {
	r := rand.New(rand.NewPCG(8, 11))
	ends := map[byte]int{}
	silent := 0
	for n := range 12000 {
		src := drawSource(r)
		if n%2 == 0 {
			src = drawCareful(r)
		}
		list := allReports(t, src)
		if len(list) == 0 {
			silent++
		}
		for range 6 {
			cpus := 1 + r.IntN(api.MaxCpus)
			script := drawScript(r, cpus)
			trace, e := warden.Run(src, cpus, script)
			if e != api.OK {
				t.Fatalf("P6: Run(%q, %d, %q) = %d", src, cpus, script, e)
			}
			if trace == "" || !strings.Contains("DUSEIWR", trace[len(trace)-1:]) {
				continue
			}
			last := trace[len(trace)-1]
			ends[last]++
			if !told(list, last) {
				t.Fatalf("P11: Run(%q, %d, %q) = %q; the reports are %v", src, cpus, script, trace, list)
			}
			if last == 'D' && !slices.ContainsFunc(list, func(r api.Report) bool { return r.Kind == api.Double }) {
				ends['d']++
			}
		}
	}
	for _, letter := range []byte("DdUSEIWR") {
		if ends[letter] < 100 {
			t.Errorf("only %d of the traces end with %q", ends[letter], letter)
		}
	}
	if silent < 100 {
		t.Errorf("only %d of the sources have no reports", silent)
	}
}
