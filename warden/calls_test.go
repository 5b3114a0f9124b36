package warden_test

import (
	"math"
	"slices"
	"strings"
	"testing"

	"warden/api"
	"warden/warden"
)

// rich has each thing that a source can have.
const rich = "A{+a(r0|w3)-a}t{<A>z[B]}B{([A]|)}h{+f-fB}"

// oddTexts are texts right and wrong: each start of a source, and the source with each byte changed to each other, taken out and doubled.
func oddTexts() []string {
	texts := []string{"\x00", "\xff\xfe", "é{}", strings.Repeat("t{", 120), strings.Repeat("(", 240), strings.Repeat("t", 1000000), tower(""), tower("z"), tower("A"), strings.Repeat("A", 240), "A{" + strings.Repeat("A", 237) + "}"}
	for i := range len(rich) {
		texts = append(texts, rich[:i], rich[:i]+rich[i+1:], rich[:i+1]+rich[i:])
		for c := range 256 {
			texts = append(texts, rich[:i]+string([]byte{byte(c)})+rich[i+1:])
		}
	}
	return append(texts, rich)
}

func TestUnfoldAnswersWithCheck(t *testing.T) {
	for _, src := range oddTexts() {
		e, at := warden.Check(src)
		if at < 0 || at > len(src) || (e == api.OK || e == api.ErrLong || e == api.ErrRound) && at != 0 {
			t.Errorf("P1: Check(%.80q) = %d, %d", src, e, at)
		}
		items, e2 := warden.Unfold(src)
		if e2 != e || e != api.OK && items != nil {
			t.Errorf("P1: Unfold(%.80q) = %v, %d; Check says %d", src, items, e2, e)
		}
		for _, item := range items {
			if len(item.Body) > api.MaxBody || strings.ContainsAny(item.Body, "ABCDEFGH{}") {
				t.Errorf("P4: Unfold(%.80q) has the body %q", src, item.Body)
			}
		}
	}
}

func TestRunAnswersWithCheck(t *testing.T) {
	for _, src := range oddTexts() {
		e, _ := warden.Check(src)
		for _, cpus := range []int{math.MinInt, 0, 1, 3, math.MaxInt} {
			want := e
			if e == api.OK && cpus != 1 && cpus != 3 {
				want = api.ErrArg
			}
			trace, got := warden.Run(src, cpus, "000.01")
			if got != want || got != api.OK && trace != "" || got == api.OK && trace == "" {
				t.Errorf("P5: Run(%.80q, %d, ..) = %q, %d, want %d", src, cpus, trace, got, want)
			}
		}
	}
}

func TestAnalyseShowAndEdgesAnswerWithCheck(t *testing.T) {
	for _, src := range oddTexts() {
		e, _ := warden.Check(src)
		list, got := warden.Analyse(src)
		if got != e || e != api.OK && list != nil {
			t.Errorf("P8: Analyse(%.80q) = %v, %d; Check says %d", src, list, got, e)
		}
		if edges, got := warden.Edges(src); got != e || e != api.OK && edges != nil {
			t.Errorf("P10: Edges(%.80q) = %v, %d; Check says %d", src, edges, got, e)
		}
		for kind := range 9 {
			r := api.Report{Kind: kind, Place: 2}
			want := e
			if e == api.OK && (kind > api.Flag || !slices.Contains(list, r)) {
				want = api.ErrNone
			}
			script, got := warden.Show(src, r)
			if got != want || (got == api.OK) != (script != "") {
				t.Errorf("P9: Show(%.80q, %v) = %q, %d, want %d", src, r, script, got, want)
			}
		}
	}
}

func TestEveryCallEnds(t *testing.T) {
	for _, src := range oddTexts() {
		for _, n := range []int{math.MinInt, -1, 0, 1, 3, 4, math.MaxInt} {
			warden.Run(src, n, src)
			warden.Run(rich, n, src)
			warden.Run(src, n, "000.0,0.0.011.1.102p21")
			warden.Show(src, api.Report{Kind: n, Item: n, Place: n})
		}
		warden.Analyse(src)
		warden.Edges(src)
	}
}

func TestAnswersDependOnArgumentsAlone(t *testing.T) {
	want, e := warden.Unfold(rich)
	if e != api.OK || len(want) != 2 {
		t.Fatalf("Unfold(%q) = %v, %d", rich, want, e)
	}
	kept := slices.Clone(want)
	script := "00110.1.0.1.0.1.0,1,0.1.0.1."
	trace, e := warden.Run(rich, 2, script)
	if e != api.OK || len(trace) < 10 {
		t.Fatalf("Run(%q, 2, %q) = %q, %d", rich, script, trace, e)
	}
	faulty := "t{[+a]z}A{<}h{(A|+a)w0}"
	list, e := warden.Analyse(faulty)
	if e != api.OK || len(list) < 5 {
		t.Fatalf("Analyse(%q) = %v, %d", faulty, list, e)
	}
	keptList := slices.Clone(list)
	lines, e := warden.Edges(faulty)
	if e != api.OK || len(lines) < 1 {
		t.Fatalf("Edges(%q) = %v, %d", faulty, lines, e)
	}
	keptLines := slices.Clone(lines)
	shown, _ := warden.Show(faulty, list[0])
	for _, src := range append(oddTexts(), rich) {
		warden.Check(src)
		warden.Analyse(src)
		warden.Show(src, keptList[0])
		reports, e := warden.Analyse(faulty)
		if e != api.OK || !slices.Equal(reports, keptList) || !slices.Equal(list, keptList) {
			t.Fatalf("P2: after %.80q Analyse(%q) = %v, %d, want %v", src, faulty, reports, e, keptList)
		}
		for i := range reports {
			reports[i] = api.Report{Kind: -1, Item: -1, Place: -1}
		}
		warden.Edges(src)
		edges, e := warden.Edges(faulty)
		if e != api.OK || !slices.Equal(edges, keptLines) || !slices.Equal(lines, keptLines) {
			t.Fatalf("P2: after %.80q Edges(%q) = %v, %d, want %v", src, faulty, edges, e, keptLines)
		}
		for i := range edges {
			edges[i] = api.Edge{From: -1, To: -1}
		}
		if again, e := warden.Show(faulty, keptList[0]); e != api.OK || again != shown {
			t.Fatalf("P2: after %.80q Show(%q, %v) = %q, %d, want %q", src, faulty, keptList[0], again, e, shown)
		}
		warden.Unfold(src)
		warden.Run(src, 3, script)
		if again, e := warden.Run(rich, 2, script); e != api.OK || again != trace {
			t.Fatalf("P2: after %.80q Run(%q, 2, %q) = %q, %d, want %q", src, rich, script, again, e, trace)
		}
		got, e := warden.Unfold(rich)
		if e != api.OK || !slices.Equal(got, kept) || !slices.Equal(want, kept) {
			t.Fatalf("P2: after %.80q Unfold(%q) = %v, %d, want %v", src, rich, got, e, kept)
		}
		for i := range got {
			got[i] = api.Item{Handler: true, Body: "changed"}
		}
	}
}
