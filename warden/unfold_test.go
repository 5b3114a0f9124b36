package warden_test

import (
	"slices"
	"strings"
	"testing"

	"warden/api"
	"warden/warden"
)

func thread(body string) api.Item  { return api.Item{Body: body} }
func handler(body string) api.Item { return api.Item{Handler: true, Body: body} }

func TestUnfold(t *testing.T) {
	for _, c := range []struct {
		src  string
		want []api.Item
	}{
		{"t{}", []api.Item{thread("")}},
		{"h{}", []api.Item{handler("")}},
		{"A{z}", nil},
		{"A{+a}t{ABz}B{-a}h{[B]}", []api.Item{thread("+a-az"), handler("[-a]")}},
		{"h{<}A{z}t{z}B{A}h{>}", []api.Item{handler("<"), thread("z"), handler(">")}},
		{"t{(A|B)[A]}A{+aB-a}B{w0C}C{}", []api.Item{thread("(+aw0-a|w0)[+aw0-a]")}},
		{"t{H}H{G}G{F}F{E}E{D}D{C}C{r3}", []api.Item{thread("r3")}},
		{"C{r3}D{C}E{D}F{E}G{F}H{G}h{H}", []api.Item{handler("r3")}},
		{"t{AAAA}A{" + zs(75) + "}", []api.Item{thread(zs(300))}},
		{"A{BBBBB}B{" + zs(76) + "}t{BBB}", []api.Item{thread(zs(228))}},
		{tower(""), []api.Item{thread("")}},
		{strings.Repeat("t{}h{}", 4), []api.Item{thread(""), handler(""), thread(""), handler(""), thread(""), handler(""), thread(""), handler("")}},
	} {
		if got, e := warden.Unfold(c.src); e != api.OK || !slices.Equal(got, c.want) {
			t.Errorf("P4: Unfold(%.80q) = %v, %d, want %v", c.src, got, e, c.want)
		}
	}
}

func TestUnfoldErrors(t *testing.T) {
	for _, c := range []struct {
		src  string
		want api.Errno
	}{
		{"t{" + zs(api.MaxText-2) + "}", api.ErrLong}, {"", api.ErrText}, {"t{}x", api.ErrText}, {"t{}h{A}", api.ErrName}, {"t{}A{}A{}", api.ErrName}, {"t{}A{A}", api.ErrRound}, {tower("z"), api.ErrBig}, {"t{}h{AAAA}A{" + zs(76) + "}", api.ErrBig},
	} {
		if got, e := warden.Unfold(c.src); got != nil || e != c.want {
			t.Errorf("P4: Unfold(%.80q) = %v, %d, want nothing and %d", c.src, got, e, c.want)
		}
	}
}
