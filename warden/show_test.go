package warden_test

import (
	"math"
	"slices"
	"strings"
	"testing"

	"warden/api"
	"warden/warden"
)

// counter is a body in which the locks a to f count, a being the lowest digit: each round adds one, if it goes by no fault.
const counter = "[(+a|-a(+b|-b(+c|-c(+d|-d(+e|-e+f)))))"

// mustShow asks for the script of a report. Whether it ends in the right frame, the other player tells.
func mustShow(t *testing.T, src string, r api.Report) string {
	t.Helper()
	script, e := warden.Show(src, r)
	if e != api.OK || len(script) > api.MaxScript {
		t.Fatalf("P9: Show(%.80q, %v) = %.80q of %d bytes, %d", src, r, script, len(script), e)
	}
	trace, e := warden.Run(src, 1, script)
	if e != api.OK || trace == "" || trace[len(trace)-1] != "?DUSEI"[r.Kind] {
		t.Fatalf("P9: Show(%.80q, %v) = %.80q: the trace is %.80q, %d", src, r, script, trace, e)
	}
	items, _ := warden.Unfold(src)
	player := newToy(items, 1)
	player.play(script)
	if f := player.top(0); f == nil || f.item != r.Item || f.at != r.Place {
		t.Fatalf("P9: Show(%.80q, %v) = %.80q: it ends in another frame, or at another place: %v", src, r, script, f)
	}
	return trace
}

func TestShowTraces(t *testing.T) {
	for _, c := range []struct {
		src  string
		r    api.Report
		want string // there is but one way
	}{
		{"t{(+a|)z[r1]}", asleep(0, 5), "t(+|S"},
		{"t{-a}", unheld(0, 0), "tU"},
		{"h{+a}", atEnd(0, 2), "h+E"},
		{"t{r0}h{w0+a-az}", asleep(1, 6), "hw+-S"},
		{"t{z-a}", unheld(0, 1), "tztU"},
		{"t{r0zz<z}", asleep(0, 5), "trztzt<S"},
		{"t{-a}A{z}t{Ar0A<}", atEnd(1, 5), "tztrzt<E"},
		{"t{+a-a}t{}t{}h{}h{}h{}h{}t{+f+f}", double(7, 2), "t+D"},
	} {
		if trace := mustShow(t, c.src, c.r); trace != c.want {
			t.Errorf("P9: Show(%q, %v) leads to %q, want %q", c.src, c.r, trace, c.want)
		}
	}
}

func TestShowSleepsOnTheWay(t *testing.T) {
	for _, src := range []string{"t{z<}", "t{zz<}", "t{[z]z[[z]<z]}", "t{(z|r0z)(<|z-a)}", "h{}t{z(z+a|z)z}", "t{[(z+a|r0z-az<)]}", "t{" + zs(api.MaxText-4) + "<}"} {
		list := aloneReports(t, src)
		if len(list) == 0 {
			t.Errorf("P8: Analyse(%.80q) has none", src)
		}
		for _, r := range list {
			mustShow(t, src, r)
		}
	}
}

func TestShowLongWays(t *testing.T) {
	pad := "A{" + strings.Repeat("r0w1", 15) + "}"
	for _, src := range []string{
		"t{" + counter + "]-a-b-c-d-e-f-a}",
		"h{" + counter + "]-a-b-c-d-e-f-a}",
		"t{z" + counter + "]-f-e-d-c-b-az<}",
		"t{z" + counter + "AAA]-f-e-d-c-b-az<}" + pad,
		"t{BCzBC<}B{" + counter + "]}C{-f-e-d-c-b-a}",
	} {
		items, e := warden.Unfold(src)
		if e != api.OK {
			t.Fatalf("Unfold(%q) = %d", src, e)
		}
		list := aloneReports(t, src)
		last := list[len(list)-1]
		for _, r := range list {
			if r.Place > last.Place {
				last = r
			}
		}
		if want := len(items[0].Body); last.Place != want && last.Place != want-2 {
			t.Errorf("P8: Analyse(%q) has none at the end: %v", src, list)
		}
		trace := mustShow(t, src, last)
		// The other ways to the last place all lead by a fault, so that it must be counted up to 63.
		if n := strings.Count(trace, "["); n < 64 {
			t.Errorf("P9: Show(%q, %v) leads to %d rounds: %.80q", src, last, n, trace)
		}
	}
}

func TestShowRefusals(t *testing.T) {
	odd := []int{math.MinInt, -1 << 32, -8, -1, 0, 1, 2, 3, 4, 5, 6, 7, 8, 9, 255, 256, 1 << 32, 1<<32 + 2, math.MaxInt}
	for _, src := range []string{"t{}", "A{-a}", "t{-a}", "t{r0+a-a-a<}h{+b}", "t{[+a]}h{(z|<)}", "h{w0}", "t{+a-a}h{+a-a}", "t{+a+b-b-a}t{+b+a-a-b}"} {
		list, e := warden.Analyse(src)
		if e != api.OK {
			t.Fatalf("P8: Analyse(%q) = %d", src, e)
		}
		for _, kind := range odd {
			for _, item := range odd {
				for _, place := range odd {
					r := api.Report{Kind: kind, Item: item, Place: place}
					if slices.Contains(list, r) && kind <= api.Flag {
						mustShow(t, src, r)
						continue
					}
					if script, e := warden.Show(src, r); e != api.ErrNone || script != "" {
						t.Fatalf("P9: Show(%q, %v) = %q, %d, want %d", src, r, script, e, api.ErrNone)
					}
				}
			}
		}
	}
}
