package warden_test

import (
	"slices"
	"strings"
	"testing"

	"warden/api"
	"warden/warden"
)

// ring and race are reports of a lock and of a cell.
func ring(lock int) api.Report { return api.Report{Kind: api.Ring, Item: -1, Place: lock} }
func race(cell int) api.Report { return api.Report{Kind: api.Race, Item: -1, Place: cell} }

// allReports are those that Analyse gives.
func allReports(t *testing.T, src string) []api.Report {
	t.Helper()
	list, e := warden.Analyse(src)
	if e != api.OK {
		t.Fatalf("P8: Analyse(%.80q) = %v, %d", src, list, e)
	}
	return list
}

// allEdges writes the edges as letters, from and to, with blanks between them.
func allEdges(t *testing.T, src string) string {
	t.Helper()
	list, e := warden.Edges(src)
	if e != api.OK {
		t.Fatalf("P10: Edges(%.80q) = %v, %d", src, list, e)
	}
	names := []string{}
	for _, edge := range list {
		names = append(names, string([]byte{byte('a' + edge.From), byte('a' + edge.To)}))
	}
	return strings.Join(names, " ")
}

type pairCase struct {
	src   string
	edges string
	want  []api.Report // all that there are
}

func pairAll(t *testing.T, cases []pairCase) {
	t.Helper()
	for _, c := range cases {
		if got := allEdges(t, c.src); got != c.edges {
			t.Errorf("P10: Edges(%.80q) = %q, want %q", c.src, got, c.edges)
		}
		if got := allReports(t, c.src); !slices.Equal(got, c.want) {
			t.Errorf("P10: Analyse(%.80q) = %v, want %v", c.src, got, c.want)
		}
	}
}

func TestPairExamples(t *testing.T) {
	pairAll(t, []pairCase{
		{"t{+a-a}h{+a-a}", "aa", []api.Report{ring(0)}},
		{"t{<+a-a>}h{+a-a}", "", nil},
		{"t{+a+b-b-a}t{+b+a-a-b}", "ab ba", []api.Report{ring(0), ring(1)}},
		{"t{+a+b-b-a}t{+b-b}", "ab", nil},
		{"t{w0}t{r0}", "", []api.Report{race(0)}},
		{"h{w0}", "", []api.Report{race(0)}},
		{"t{w0}", "", nil},
		{"t{(+a|)z[r1]}", "", []api.Report{asleep(0, 5)}},
		{"t{[+a]}", "", []api.Report{double(0, 1), atEnd(0, 4)}},
	})
}

func TestEdgesOfSingleItems(t *testing.T) {
	pairAll(t, []pairCase{
		{"A{+a+b-b-a}", "", nil},
		{"t{}", "", nil},
		{"t{+a-a}", "", nil},
		{"t{+a-a+b-b}", "", nil},
		{"t{+a-a}t{+b-b}", "", nil},
		{"h{+a-a}h{+b-b}", "", nil},
		{"t{+a+b-b-a}", "ab", nil},
		{"t{+f+e-e-f}", "fe", nil},
		{"h{+b+a-a-b}", "ba", nil},
		{"t{<+a+b-b-a>}", "ab", nil},
		{"t{+a+b-a+c-c-b}", "ab bc", nil},
		{"t{+a+b+c+d+e+f-a-b-c-d-e-f}", "ab ac ad ae af bc bd be bf cd ce cf de df ef", nil},
		{"t{+f+e+d+c+b+a-a-b-c-d-e-f}", "ba ca cb da db dc ea eb ec ed fa fb fc fd fe", nil},
		{"A{+b-b}t{+aA-a}", "ab", nil},
		{"t{(+a|+b)(+c-c|)(-a|-b)}", "ac bc", []api.Report{unheld(0, 15), unheld(0, 18)}},
		{"t{[+a[+b-b]-a]}", "ab", nil},
		{"t{+a(|)[]<>+b-b-a}", "ab", nil},
		// What is behind a fault is reached by nobody.
		{"t{+a+a+b}", "", []api.Report{double(0, 2)}},
		{"t{+d+e+d}", "de", []api.Report{double(0, 4)}},
		{"t{-a+b+c}", "", []api.Report{unheld(0, 0)}},
		{"t{+az+b}", "", []api.Report{asleep(0, 2)}},
		{"h{+a<+b}", "", []api.Report{flag(0, 2)}},
		// The lock that is taken is held by another: that is no matter to the states.
		{"t{+a}t{+b+a-a-b}", "ba", []api.Report{atEnd(0, 2)}},
	})
}

func TestEdgesOfHandlersAboveThreads(t *testing.T) {
	pairAll(t, []pairCase{
		{"t{+a-a}h{+b-b}", "ab", nil},
		{"h{+b-b}t{+a-a}", "ab", nil},
		{"t{+a-a}h{+b+c-c-b}", "ab ac bc", nil},
		{"t{+a-a}h{+b-b}h{+c-c}", "ab ac", nil},
		{"t{+a-a}t{+b-b}h{+c-c}", "ac bc", nil},
		{"t{+a+b-b-a}h{+c-c}", "ab ac bc", nil},
		{"t{<+a-a>}h{+b-b}", "", nil},
		{"t{<+a>-a}h{+b-b}", "ab", nil},
		{"t{+a<-a>}h{+b-b}", "ab", nil},
		{"t{<+a+b-b>-a}h{+c-c}", "ab ac", nil},
		{"t{(<|)+a-a>}h{+b-b}", "ab", nil},
		{"t{<[>+a-a<]>}h{+b-b}", "ab", nil},
		// A handler comes at the end too, and where the thread is about to go wrong.
		{"t{+a}h{+b-b}", "ab", []api.Report{atEnd(0, 2)}},
		{"t{+az}h{+b-b}", "ab", []api.Report{asleep(0, 2)}},
		{"t{<+a>}h{+b-b}", "ab", []api.Report{atEnd(0, 4)}},
		{"t{<+a}h{+b-b}", "", []api.Report{atEnd(0, 3)}},
		// What a handler takes that goes wrong later, or that it holds already.
		{"t{+a-a}h{+b}", "ab", []api.Report{atEnd(1, 2)}},
		{"t{+a-a}h{+b+b}", "ab", []api.Report{double(1, 2)}},
		{"t{+a-a}h{z+b}", "", []api.Report{asleep(1, 0)}},
		// No handler comes above a handler, and none that takes nothing makes edges.
		{"h{+a-a}h{+b-b}t{}", "", nil},
		{"t{+a-a}h{}", "", nil},
		{"t{+a-a}h{(r0|)}", "", nil},
		{"t{z}h{+a-a}", "", nil},
	})
}

func TestRings(t *testing.T) {
	pairAll(t, []pairCase{
		{"t{+f-f}h{+f-f}", "ff", []api.Report{ring(5)}},
		{"t{(+a+b-b-a|+b+a-a-b)}", "ab ba", []api.Report{ring(0), ring(1)}},
		{"t{+b+a-a-b}h{+a+b-b-a}", "aa ab ba bb", []api.Report{ring(0), ring(1)}},
		{"t{<+b+a-a-b>}h{+a+b-b-a}", "ab ba", []api.Report{ring(0), ring(1)}},
		{"t{+a-a}t{<+b+a-a-b>}h{+b-b}", "ab ba", []api.Report{ring(0), ring(1)}},
		{"t{+a+b-b-a}t{+b+c-c-b}t{+c+a-a-c}", "ab bc ca", []api.Report{ring(0), ring(1), ring(2)}},
		// Edges lead to a ring, or away from one, without being in it.
		{"t{+c+a-a-c}t{+a+b-b-a}t{+b+a-a-b}", "ab ba ca", []api.Report{ring(0), ring(1)}},
		{"t{+a+c-c-a}t{+a+b-b-a}t{+b+a-a-b}", "ab ac ba", []api.Report{ring(0), ring(1)}},
		{"t{+a+b-b-a}t{+b-b}h{+b-b}", "ab bb", []api.Report{ring(1)}},
		// Two rings, and an edge between them.
		{"t{+a+b-b-a}t{+b+a-a-b}t{+e+f-f-e}t{+f+e-e-f}t{+b+e-e-b}", "ab ba be ef fe", []api.Report{ring(0), ring(1), ring(4), ring(5)}},
		// Long ones, in two orders of the locks.
		{"t{+a+b-b-a}t{+b+c-c-b}t{+c+d-d-c}t{+d+e-e-d}t{+e+f-f-e}t{+f+a-a-f}", "ab bc cd de ef fa", []api.Report{ring(0), ring(1), ring(2), ring(3), ring(4), ring(5)}},
		{"t{+d+a-a-d}t{+a+f-f-a}t{+f+b-b-f}t{+b+e-e-b}t{+e+c-c-e}t{+c+d-d-c}", "af be cd da ec fb", []api.Report{ring(0), ring(1), ring(2), ring(3), ring(4), ring(5)}},
		{"t{+a+b-b-a}t{+b+c-c-b}t{+c+d-d-c}t{+d+e-e-d}t{+e+f-f-e}", "ab bc cd de ef", nil},
		// A Double makes no Ring.
		{"t{+a+a}", "", []api.Report{double(0, 2)}},
		{"h{+a+a}h{+a+a}", "", []api.Report{double(0, 2), double(1, 2)}},
		{"t{+a+a}h{+a-a}", "aa", []api.Report{double(0, 2), ring(0)}},
	})
}

func TestRaces(t *testing.T) {
	pairAll(t, []pairCase{
		{"t{r0}t{w0}", "", []api.Report{race(0)}},
		{"t{w3}t{w3}", "", []api.Report{race(3)}},
		{"t{r0}t{r0}", "", nil},
		{"t{w0}t{w1}", "", nil},
		{"t{w0}t{r1}", "", nil},
		{"t{w0r0w0}", "", nil},
		{"t{[w0(r0|w0)]}", "", nil},
		{"A{w0}t{A}", "", nil},
		{"A{w0}t{A}t{A}", "", []api.Report{race(0)}},
		{"t{w2}h{r2}", "", []api.Report{race(2)}},
		{"t{r2}h{w2}", "", []api.Report{race(2)}},
		{"t{<w2>}h{r2}", "", []api.Report{race(2)}},
		{"h{r0}", "", nil},
		{"h{r0}h{r0}", "", nil},
		{"h{w1}h{w1}", "", []api.Report{race(1)}},
		{"h{r1w2}", "", []api.Report{race(2)}},
		{"t{w0r1}t{w1r2}t{w2r3}t{w3r0}", "", []api.Report{race(0), race(1), race(2), race(3)}},
		{strings.Repeat("t{r0}", 7) + "t{w0}", "", []api.Report{race(0)}},
		{"t{w0}" + strings.Repeat("t{r0}", 7), "", []api.Report{race(0)}},
		{strings.Repeat("t{r0}", 8), "", nil},
	})
}

func TestRacesWithLocks(t *testing.T) {
	pairAll(t, []pairCase{
		{"t{+aw0-a}t{+aw0-a}", "", nil},
		{"t{+aw0-a}t{+ar0-a}", "", nil},
		{"t{+fw0-f}t{+fr0-f}", "", nil},
		{"t{+aw0-a}t{+bw0-b}", "", []api.Report{race(0)}},
		{"t{+aw0-a}t{+a-aw0}", "", []api.Report{race(0)}},
		{"t{+a+bw0-b-a}t{+b+cw0-c-b}", "ab bc", nil},
		{"t{+a+bw0-b-a}t{+c+dw0-d-c}", "ab cd", []api.Report{race(0)}},
		{"t{+a+b-aw0-b}t{+aw0-a}", "ab", []api.Report{race(0)}},
		// Each two have a lock in common, but not the same one; a third pair has none.
		{"t{+a+bw0-b-a}t{+b+cw0-c-b}t{+a+cr0-c-a}", "ab ac bc", nil},
		{"t{+a+bw0-b-a}t{+bw0-b}t{+ar0-a}", "ab", []api.Report{race(0)}},
		{"t{+a+br0-b-a}t{+bw0-b}t{+ar0-a}", "ab", []api.Report{race(0)}},
		{"t{+a+bw0-b-a}t{+br0-b}t{+ar0-a}", "ab", nil},
		// One handler by itself: what it writes under other locks than it reads.
		{"h{+aw0-a}", "", nil},
		{"h{+aw0r0-a}", "", nil},
		{"h{+aw0-ar0}", "", []api.Report{race(0)}},
		{"h{+aw0-a+br0-b}", "", []api.Report{race(0)}},
		{"h{+ar0-a+br0-b+a+bw0-b-a}", "ab", nil},
		{"h{(+a|+b)w0(-a|-b)}", "", []api.Report{unheld(0, 10), unheld(0, 13), race(0)}},
		{"h{(+a|)w0}", "", []api.Report{atEnd(0, 7), race(0)}},
		{"t{+aw0-ar0}", "", nil},
		// One of several ways is enough.
		{"t{(+a|)w0}t{+aw0-a}", "", []api.Report{atEnd(0, 7), race(0)}},
		{"t{[w3]}t{[+br3-b]}", "", []api.Report{race(3)}},
		{"t{[+a]w0}t{+aw0-a}", "", []api.Report{double(0, 1), atEnd(0, 6), race(0)}},
		{"t{[+a(r0|w0)-a]}h{[+b(r0|)-b]}", "ab", []api.Report{race(0)}},
		// What is behind a fault is reached by nobody.
		{"t{+a+aw0}t{w0}", "", []api.Report{double(0, 2)}},
		{"h{zw0}", "", []api.Report{asleep(0, 0)}},
		{"t{-aw0}h{r0}", "", []api.Report{unheld(0, 0)}},
	})
}

func TestPairOrder(t *testing.T) {
	pairAll(t, []pairCase{
		{"h{(z|[+b-b])w3}t{+a+f-f-a-a}h{(<|w0)+a-a}t{+f+a}", "aa ab af fa fb", []api.Report{
			unheld(1, 8), asleep(0, 1), atEnd(3, 4), flag(2, 1),
			ring(0), ring(5), race(0), race(3),
		}},
	})
}

func TestEdgesErrors(t *testing.T) {
	for _, c := range []struct {
		src  string
		want api.Errno
	}{
		{"t{+a+b" + zs(api.MaxText-6) + "}", api.ErrLong},
		{"", api.ErrText},
		{"t{+a+b", api.ErrText},
		{"t{+a+bA}", api.ErrName},
		{"t{+a+b}t{+a+b}A{}A{}", api.ErrName},
		{"t{+a+b}A{A}", api.ErrRound},
		{tower("z"), api.ErrBig},
	} {
		if list, e := warden.Edges(c.src); e != c.want || list != nil {
			t.Errorf("P10: Edges(%.80q) = %v, %d, want %d", c.src, list, e, c.want)
		}
	}
}

// A Ring or a Race is not shown, even where one processor would be enough.
func TestShowRefusesPairs(t *testing.T) {
	for _, src := range []string{"t{+a-a}h{+a-a}", "h{w0}", "t{+a+b-b-a}t{+b+a-a-b}", "t{w0}t{r0}", "t{+f-fw3}h{+f-fw3}"} {
		list := allReports(t, src)
		if len(list) == 0 {
			t.Errorf("P10: Analyse(%q) has none", src)
		}
		for _, r := range list {
			if script, e := warden.Show(src, r); e != api.ErrNone || script != "" {
				t.Errorf("P9: Show(%q, %v) = %q, %d, want %d", src, r, script, e, api.ErrNone)
			}
			r.Item = 0
			if script, e := warden.Show(src, r); e != api.ErrNone || script != "" {
				t.Errorf("P9: Show(%q, %v) = %q, %d, want %d", src, r, script, e, api.ErrNone)
			}
		}
	}
}
