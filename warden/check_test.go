package warden_test

import (
	"strings"
	"testing"

	"warden/api"
	"warden/warden"
)

type checkCase struct {
	src  string
	want api.Errno
	at   int
}

func checkAll(t *testing.T, cases []checkCase) {
	t.Helper()
	for _, c := range cases {
		if e, at := warden.Check(c.src); e != c.want || at != c.at {
			t.Errorf("P3: Check(%.80q) = %d, %d, want %d, %d", c.src, e, at, c.want, c.at)
		}
	}
}

// zs is a body of n bytes.
func zs(n int) string { return strings.Repeat("z", n) }

// tower is a source whose thread has six to the eighth times what is laid in its last function.
func tower(last string) string {
	return "t{AAAAAA}A{BBBBBB}B{CCCCCC}C{DDDDDD}D{EEEEEE}E{FFFFFF}F{GGGGGG}G{" + last + "}"
}

func TestCheckTakesSources(t *testing.T) {
	for _, src := range []string{
		"t{}", "h{}", "A{}", "H{}", "t{}h{}A{}", "t{A}A{}", "A{}t{A}", "A{}B{A}", "t{z}t{z}", "h{z}h{z}",
		"t{+a+b+c+d+e+f-a-b-c-d-e-f<>zr0r1r2r3w0w1w2w3}",
		"h{(|)}", "h{[]}", "t{(+a|-b)[r0](|[w3(z|<)])}", "t{[[][]](([]|)|(|))}",
		strings.Repeat("t{}", api.MaxItems),
		"A{}B{}C{}D{}E{}F{}G{}H{}",
		"t{" + zs(api.MaxText-3) + "}",
		"t{" + strings.Repeat("[", 118) + strings.Repeat("]", 118) + "}",
		"t{" + strings.Repeat("(", 79) + strings.Repeat("|)", 79) + "}",
		"t{AAAA}A{" + zs(75) + "}",
		"t{AAAAAA}A{" + strings.Repeat("+a", 25) + "}",
		"A{BBBBB}B{" + zs(76) + "}t{}",
		"A{BBBBB}B{" + zs(76) + "}t{BBB}h{}",
		tower(""),
		strings.Replace(tower("z"), "t{AAAAAA}", "t{G}", 1),
	} {
		checkAll(t, []checkCase{{src, api.OK, 0}})
	}
}

func TestCheckLongTexts(t *testing.T) {
	checkAll(t, []checkCase{
		{"t{" + zs(api.MaxText-2) + "}", api.ErrLong, 0},
		{"t{}" + strings.Repeat("x", api.MaxText-2), api.ErrLong, 0},
		{"t{}" + strings.Repeat("x", api.MaxText-3), api.ErrText, 3},
		{strings.Repeat("A{A}", api.MaxText/4) + "A", api.ErrLong, 0},
		{strings.Repeat("\x00", 5000000), api.ErrLong, 0},
	})
}

func TestCheckWrongItems(t *testing.T) {
	checkAll(t, []checkCase{
		{"", api.ErrText, 0}, {"t", api.ErrText, 1}, {"A", api.ErrText, 1}, {"t{", api.ErrText, 2}, {"t{}h", api.ErrText, 4}, {"t{}h{", api.ErrText, 5},
		{"tt{}", api.ErrText, 1}, {"t}", api.ErrText, 1}, {"t(}", api.ErrText, 1}, {"{}", api.ErrText, 0}, {"}", api.ErrText, 0}, {"z", api.ErrText, 0}, {"a{}", api.ErrText, 0}, {"I{}", api.ErrText, 0}, {"@{}", api.ErrText, 0}, {"T{}", api.ErrText, 0},
		{"t{}}", api.ErrText, 3}, {"t{} h{}", api.ErrText, 3}, {"t{}z", api.ErrText, 3}, {"t{}\n", api.ErrText, 3}, {" t{}", api.ErrText, 0}, {"t {}", api.ErrText, 1},
		{strings.Repeat("t{}", 9), api.ErrText, 24}, {strings.Repeat("h{}", 8) + "x", api.ErrText, 24}, {"A{}B{}C{}D{}E{}F{}G{}H{}t", api.ErrText, 24},
		{strings.Repeat("t{z}", 7) + "t{z", api.ErrText, 31},
	})
}

func TestCheckWrongBodies(t *testing.T) {
	checkAll(t, []checkCase{
		{"t{ }", api.ErrText, 2}, {"t{+}", api.ErrText, 3}, {"t{-}", api.ErrText, 3}, {"t{+g}", api.ErrText, 3}, {"t{-g}", api.ErrText, 3}, {"t{+`}", api.ErrText, 3}, {"t{+0}", api.ErrText, 3}, {"t{++a}", api.ErrText, 3}, {"t{+", api.ErrText, 3}, {"t{+a", api.ErrText, 4},
		{"t{r}", api.ErrText, 3}, {"t{w}", api.ErrText, 3}, {"t{r4}", api.ErrText, 3}, {"t{w4}", api.ErrText, 3}, {"t{r/}", api.ErrText, 3}, {"t{wa}", api.ErrText, 3}, {"t{w", api.ErrText, 3}, {"t{r0", api.ErrText, 4},
		{"t{a}", api.ErrText, 2}, {"t{0}", api.ErrText, 2}, {"t{t}", api.ErrText, 2}, {"t{h}", api.ErrText, 2}, {"t{I}", api.ErrText, 2}, {"t{@}", api.ErrText, 2}, {"t{{", api.ErrText, 2}, {"t{Z}", api.ErrText, 2}, {"t{A{}}", api.ErrText, 3}, {"t{\x80}", api.ErrText, 2}, {"t{\xc3\xa4}", api.ErrText, 2},
		{"t{|}", api.ErrText, 2}, {"t{)}", api.ErrText, 2}, {"t{]}", api.ErrText, 2},
		{"t{(}", api.ErrText, 3}, {"t{()}", api.ErrText, 3}, {"t{(]}", api.ErrText, 3}, {"t{(|}", api.ErrText, 4}, {"t{(||", api.ErrText, 4}, {"t{(|]", api.ErrText, 4}, {"t{(|", api.ErrText, 4}, {"t{(|))", api.ErrText, 5}, {"t{(|)|", api.ErrText, 5}, {"t{(+a)}", api.ErrText, 5},
		{"t{[}", api.ErrText, 3}, {"t{[|", api.ErrText, 3}, {"t{[)", api.ErrText, 3}, {"t{[]]", api.ErrText, 4}, {"t{[(|]", api.ErrText, 5}, {"t{([|", api.ErrText, 4}, {"t{(|[)", api.ErrText, 5}, {"t{[(|)", api.ErrText, 6},
	})
}

func TestCheckNames(t *testing.T) {
	checkAll(t, []checkCase{
		{"t{A}", api.ErrName, 2}, {"h{z[(|H)]}", api.ErrName, 6}, {"A{B}", api.ErrName, 2}, {"A{}t{AB}", api.ErrName, 6},
		{"A{}A{}", api.ErrName, 3}, {"A{}t{}A{}", api.ErrName, 6}, {"A{}A{}A{}", api.ErrName, 3}, {"A{}B{}B{}A{}", api.ErrName, 6},
		{"t{B}A{}A{}", api.ErrName, 2}, {"A{}A{}t{B}", api.ErrName, 3}, {"A{}A{B}", api.ErrName, 3}, {"A{B}A{}", api.ErrName, 2}, {"A{A}A{}", api.ErrName, 4},
		{"t{H}A{}B{}C{}D{}E{}F{}G{}", api.ErrName, 2},
	})
}

func TestCheckRounds(t *testing.T) {
	checkAll(t, []checkCase{
		{"A{A}", api.ErrRound, 0}, {"H{H}t{}", api.ErrRound, 0}, {"t{A}A{z[(|A)]}", api.ErrRound, 0}, {"A{B}B{A}", api.ErrRound, 0}, {"A{B}B{B}", api.ErrRound, 0}, {"t{}A{}B{AC}C{AB}", api.ErrRound, 0},
		{"A{B}B{C}C{D}D{E}E{F}F{G}G{H}H{A}", api.ErrRound, 0}, {"A{H}B{A}C{B}D{C}E{D}F{E}G{F}H{G}", api.ErrRound, 0},
		{tower("G"), api.ErrRound, 0}, {tower("A"), api.ErrRound, 0},
		{"A{B}B{C}C{D}D{E}E{F}F{G}G{H}H{}", api.OK, 0}, {"A{}B{A}C{B}D{C}E{D}F{E}G{F}H{G}", api.OK, 0}, {"A{BC}B{D}C{D}D{}", api.OK, 0},
	})
}

func TestCheckBigBodies(t *testing.T) {
	checkAll(t, []checkCase{
		{"t{AAAAz}A{" + zs(75) + "}", api.ErrBig, 0}, {"t{zAAAA}A{" + zs(75) + "}", api.ErrBig, 0}, {"t{AAAA}A{" + zs(76) + "}", api.ErrBig, 0}, {"t{AAAA[]}A{" + zs(75) + "}", api.ErrBig, 0},
		{"t{}h{}A{" + zs(76) + "}h{AAAA}t{AAAA}", api.ErrBig, 2}, {"A{" + zs(76) + "}B{AAAA}t{AAA}h{B}", api.ErrBig, 1},
		{tower("z"), api.ErrBig, 0}, {"h{G}" + tower("z")[len("t{AAAAAA}"):], api.OK, 0}, {"h{A}" + tower("z")[len("t{AAAAAA}"):], api.ErrBig, 0},
	})
}

func TestCheckFirstErrorWins(t *testing.T) {
	checkAll(t, []checkCase{
		{"t{A}A{}A{}+", api.ErrText, 10}, {"A{A}x", api.ErrText, 4},
		{"A{A}t{B}", api.ErrName, 6}, {"A{A}B{}B{}", api.ErrName, 7},
		{"A{A}t{BBBB}B{" + zs(76) + "}", api.ErrRound, 0},
		{"t{BBBBC}B{" + zs(76) + "}", api.ErrName, 6},
	})
}
