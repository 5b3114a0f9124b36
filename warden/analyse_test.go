package warden_test

import (
	"slices"
	"strings"
	"testing"

	"warden/api"
	"warden/warden"
)

// double and the four below are reports of an item at a place.
func double(item, place int) api.Report {
	return api.Report{Kind: api.Double, Item: item, Place: place}
}
func unheld(item, place int) api.Report {
	return api.Report{Kind: api.Unheld, Item: item, Place: place}
}
func asleep(item, place int) api.Report { return api.Report{Kind: api.Sleep, Item: item, Place: place} }
func atEnd(item, place int) api.Report  { return api.Report{Kind: api.End, Item: item, Place: place} }
func flag(item, place int) api.Report   { return api.Report{Kind: api.Flag, Item: item, Place: place} }

// aloneReports are those of items by themselves.
func aloneReports(t *testing.T, src string) []api.Report {
	t.Helper()
	list, e := warden.Analyse(src)
	if e != api.OK {
		t.Fatalf("P8: Analyse(%q) = %v, %d", src, list, e)
	}
	return slices.DeleteFunc(list, func(r api.Report) bool { return r.Kind > api.Flag })
}

type analyseCase struct {
	src  string
	want []api.Report
}

func analyseAll(t *testing.T, cases []analyseCase) {
	t.Helper()
	for _, c := range cases {
		if got := aloneReports(t, c.src); !slices.Equal(got, c.want) {
			t.Errorf("P8: Analyse(%.80q) = %v, want %v", c.src, got, c.want)
		}
		for _, r := range c.want {
			mustShow(t, c.src, r)
		}
	}
}

func TestAnalyseExamples(t *testing.T) {
	analyseAll(t, []analyseCase{
		{"t{+a-a}h{+a-a}", nil},
		{"t{<+a-a>}h{+a-a}", nil},
		{"t{+a+b-b-a}t{+b+a-a-b}", nil},
		{"t{w0}t{r0}", nil},
		{"t{w0}", nil},
		{"t{(+a|)z[r1]}", []api.Report{asleep(0, 5)}},
		{"t{[+a]}", []api.Report{double(0, 1), atEnd(0, 4)}},
		{"h{<}", []api.Report{flag(0, 0)}},
		{"t{<}", []api.Report{atEnd(0, 1)}},
		{"t{-a}", []api.Report{unheld(0, 0)}},
	})
}

func TestAnalyseThreads(t *testing.T) {
	analyseAll(t, []analyseCase{
		{"t{}", nil},
		{"t{z}", nil},
		{"t{<>z}", nil},
		{"t{>z}", nil},
		{"t{+a+b+c+d+e+f-a-b-c-d-e-f}", nil},
		{"t{+a<-a>}", nil},
		{"t{+a>-a}", nil},
		{"t{<z}", []api.Report{asleep(0, 1)}},
		{"t{+fz}", []api.Report{asleep(0, 2)}},
		{"t{<+az}", []api.Report{asleep(0, 3)}},
		{"t{+f}", []api.Report{atEnd(0, 2)}},
		{"t{<+f}", []api.Report{atEnd(0, 3)}},
		{"t{+a-b}", []api.Report{unheld(0, 2)}},
		{"t{+a+b+b}", []api.Report{double(0, 4)}},
		{"t{+a-a+a-a-a}", []api.Report{unheld(0, 8)}},
		{"t{z+a-az<>zr0w0<}", []api.Report{atEnd(0, 14)}},
	})
}

func TestAnalyseHandlers(t *testing.T) {
	analyseAll(t, []analyseCase{
		{"h{}", nil},
		{"h{+a-a}", nil},
		{"h{[+a(r0|w0)-a]}", nil},
		{"h{z}", []api.Report{asleep(0, 0)}},
		{"h{>}", []api.Report{flag(0, 0)}},
		{"h{(<|>)}", []api.Report{flag(0, 1), flag(0, 3)}},
		{"h{+a}", []api.Report{atEnd(0, 2)}},
		{"h{+a+a}", []api.Report{double(0, 2)}},
		{"h{-a}", []api.Report{unheld(0, 0)}},
		{"t{+a-a}h{-a}", []api.Report{unheld(1, 0)}},
		{"h{[z]+a<}", []api.Report{asleep(0, 1), flag(0, 5)}},
	})
}

func TestAnalyseGoesNowhereBehindFaults(t *testing.T) {
	analyseAll(t, []analyseCase{
		{"t{+a+a+a}", []api.Report{double(0, 2)}},
		{"t{-a-b+c+c}", []api.Report{unheld(0, 0)}},
		{"t{<z<z}", []api.Report{asleep(0, 1)}},
		{"t{+az-a-a}", []api.Report{asleep(0, 2)}},
		{"h{z-a}", []api.Report{asleep(0, 0)}},
		{"h{<-a}", []api.Report{flag(0, 0)}},
		{"h{>z+a}", []api.Report{flag(0, 0)}},
		{"t{(-a|)<}", []api.Report{unheld(0, 1), atEnd(0, 6)}},
		{"t{(-a|-b)z-c}", []api.Report{unheld(0, 1), unheld(0, 4)}},
	})
}

func TestAnalyseWays(t *testing.T) {
	deep := strings.Repeat("[", 100) + "+f" + strings.Repeat("]", 100)
	analyseAll(t, []analyseCase{
		{"t{(+a|)(-a|)}", []api.Report{unheld(0, 6), atEnd(0, 10)}},
		{"t{(|+a)-a}", []api.Report{unheld(0, 5)}},
		{"t{(+a|+b)(-a|-b)}", []api.Report{unheld(0, 8), unheld(0, 11)}},
		{"t{(+a|+b)(<|r0)}", []api.Report{atEnd(0, 13)}},
		{"t{[+a-a][<>](z|)z}", nil},
		{"t{[(+a|-a)]}", []api.Report{double(0, 2), unheld(0, 5), atEnd(0, 9)}},
		{"t{[[[+a]]]}", []api.Report{double(0, 3), atEnd(0, 8)}},
		{"t{" + deep + "}", []api.Report{double(0, 100), atEnd(0, 202)}},
		{"t{[<]z}", []api.Report{asleep(0, 3)}},
		{"t{[r0<]>z}", nil},
		{"t{[z<]}", []api.Report{asleep(0, 1), atEnd(0, 4)}},
		{"t{[[z]+a]}", []api.Report{double(0, 4), asleep(0, 2), atEnd(0, 7)}},
	})
}

func TestAnalyseOrder(t *testing.T) {
	analyseAll(t, []analyseCase{
		{"A{-a}", nil},
		{"A{+a}t{A}t{A-aA}", []api.Report{atEnd(0, 2), atEnd(1, 6)}},
		{"A{}h{}B{z}t{+aB-a}", []api.Report{asleep(1, 2)}},
		{"t{(<|(z|-a))}t{(+b+b|-a)}h{(>|(z|-c))}h{[+d]}", []api.Report{
			double(1, 3), double(3, 1),
			unheld(0, 6), unheld(1, 6), unheld(2, 6),
			asleep(2, 4),
			atEnd(0, 10), atEnd(3, 4),
			flag(2, 1),
		}},
		{"t{-a}h{-a}t{-a}h{-a}t{-a}h{-a}t{-a}h{-a}", []api.Report{
			unheld(0, 0), unheld(1, 0), unheld(2, 0), unheld(3, 0), unheld(4, 0), unheld(5, 0), unheld(6, 0), unheld(7, 0),
		}},
	})
}

func TestAnalyseErrors(t *testing.T) {
	for _, c := range []struct {
		src  string
		want api.Errno
	}{
		{"t{" + zs(api.MaxText-2) + "}", api.ErrLong},
		{"", api.ErrText},
		{"t{-a", api.ErrText},
		{"t{-aA}", api.ErrName},
		{"t{-a}A{A}", api.ErrRound},
		{tower("z"), api.ErrBig},
	} {
		if list, e := warden.Analyse(c.src); e != c.want || list != nil {
			t.Errorf("P8: Analyse(%.80q) = %v, %d, want %d", c.src, list, e, c.want)
		}
		if script, e := warden.Show(c.src, unheld(0, 0)); e != c.want || script != "" {
			t.Errorf("P9: Show(%.80q, ..) = %.80q, %d, want %d", c.src, script, e, c.want)
		}
	}
}
