package warden_test

import (
	"regexp"
	"strconv"
	"strings"
	"testing"

	"warden/api"
	"warden/warden"
)

type runCase struct {
	src    string
	cpus   int
	script string // with blanks, for the eye
	want   string
}

func runAll(t *testing.T, cases []runCase) {
	t.Helper()
	for _, c := range cases {
		script := strings.ReplaceAll(c.script, " ", "")
		if trace, e := warden.Run(c.src, c.cpus, script); e != api.OK || trace != c.want {
			t.Errorf("P6: Run(%.80q, %d, %.80q) = %.80q, %d, want %.80q", c.src, c.cpus, c.script, trace, e, c.want)
		}
	}
}

func TestRunExamples(t *testing.T) {
	runAll(t, []runCase{
		{"t{+a-a}h{+a-a}", 1, "00 0. 01 0.", "t+hD"},
		{"t{+a-a}h{+a-a}", 1, "00 01 0. 0. 0. 0.", "th+-e+"},
		{"t{<+a-a>}h{+a-a}", 1, "00 0. 01 0. 01 0. 0. 01", "t<_+_->h"},
		{"t{+a+b-b-a}t{+b+a-a-b}", 2, "00 0. 11 1. 0.", "t+t+W"},
		{"t{+a+b-b-a}t{+b-b}", 2, "00 0. 11 1. 0. 1. 0.", "t+t+:-+"},
		{"t{w0}t{r0}", 2, "00 11 1.", "ttR"},
		{"t{(+a|)z[r1]}", 1, "00 0. 0. 0. 0.", "t(+|S"},
	})
}

func TestRunErrors(t *testing.T) {
	long := strings.Repeat("0.", api.MaxScript/2)
	for _, c := range []struct {
		src    string
		cpus   int
		script string
		want   api.Errno
	}{
		{"t{" + zs(api.MaxText-2) + "}", 0, "x", api.ErrLong},
		{"t{}", 1, long + "0", api.ErrLong},
		{"t{", 1, long + "0.", api.ErrLong},
		{"t{}", 0, long + "0.", api.ErrLong},
		{"", 0, "x", api.ErrText},
		{"", 1, "", api.ErrText},
		{"t{A}", 0, "x", api.ErrName},
		{"A{A}", 0, "x", api.ErrRound},
		{tower("z"), 0, "x", api.ErrBig},
		{"t{}", 0, "x", api.ErrArg},
		{"t{}", -1, "", api.ErrArg},
		{"t{}", api.MaxCpus + 1, "", api.ErrArg},
		{"t{}", 1 << 32, "", api.ErrArg},
		{"t{}", 1<<32 + 1, "", api.ErrArg},
		{"t{}", 1, "0", api.ErrScript},
		{"t{}", 1, "0.0", api.ErrScript},
		{"t{}", 1, "1.", api.ErrScript},
		{"t{}", 1, long[1:], api.ErrScript},
		{"t{}", 1, long[2:] + "1.", api.ErrScript},
		{"t{-a}", 1, "00 0. 0?", api.ErrScript},
	} {
		script := strings.ReplaceAll(c.script, " ", "")
		if trace, e := warden.Run(c.src, c.cpus, script); e != c.want || trace != "" {
			t.Errorf("P5: Run(%.80q, %d, %.80q) = %.80q, %d, want %d", c.src, c.cpus, c.script, trace, e, c.want)
		}
	}
}

func TestScripts(t *testing.T) {
	for cpus := 1; cpus <= api.MaxCpus; cpus++ {
		right := regexp.MustCompile(`^[0-` + strconv.Itoa(cpus-1) + `][.,p0-7]$`)
		for a := range 256 {
			for b := range 256 {
				command := string([]byte{byte(a), byte(b)})
				want := api.ErrScript
				if right.MatchString(command) {
					want = api.OK
				}
				for _, script := range []string{command, "0." + command, command + "0."} {
					trace, e := warden.Run("h{}", cpus, script)
					if e != want || e != api.OK && trace != "" || e == api.OK && 2*len(trace) != len(script) {
						t.Fatalf("P5: Run(%q, %d, %q) = %q, %d, want %d", "h{}", cpus, script, trace, e, want)
					}
				}
			}
		}
	}
}

func TestRunLongScripts(t *testing.T) {
	half := api.MaxScript / 2
	idle := strings.Repeat("0.", half)
	bodies := "t{" + strings.Repeat("[", 118) + strings.Repeat("]", 118) + "}"
	runAll(t, []runCase{
		{"t{}", 1, "", ""},
		{"A{}", 3, "00 17 2. 2p", "____"},
		{"t{}", 1, idle, strings.Repeat("_", half)},
		{"t{}", 1, "00" + idle[2:], "te" + strings.Repeat("_", half-2)},
		{"t{[r0]}", 1, "00" + idle[2:], "t" + strings.Repeat("[r]", half)[:half-1]},
		{"t{-a}", 1, "00" + idle[2:], "tU"},
		{bodies, 1, "00" + idle[2:238] + strings.Repeat("0,0.", 500), "t" + strings.Repeat("[", 118) + "][" + strings.Repeat("][", 499)[:998]},
		{"t{AAAA}A{" + strings.Repeat("<", 75) + "}", 1, "00" + idle[:602], "t" + strings.Repeat("<", 300) + "E"},
	})
}

func TestRunChoices(t *testing.T) {
	runAll(t, []runCase{
		{"t{(r0|w1)}", 1, "00 0. 0. 0. 0.", "t(r|e"},
		{"t{(r0|w1)}", 1, "00 0, 0, 0, 0,", "t(w)e"},
		{"t{(|)}", 1, "00 0. 0, 0,", "t(|e"},
		{"t{(|)}", 1, "00 0, 0. 0.", "t()e"},
		{"t{[r0]w1}", 1, "00 0. 0, 0, 0. 0. 0. 0, 0. 0.", "t[r][r][we"},
		{"t{[]}", 1, "00 0. 0, 0. 0. 0, 0.", "t[][][e"},
		{"t{(([r0]|w0)|(r1|[w1]))r2}", 1, "00 0. 0. 0. 0. 0. 0, 0. 0. 0. 0.", "t(([r][||re"},
		{"t{(([r0]|w0)|(r1|[w1]))r2}", 1, "00 0. 0, 0. 0. 0. 0. 0.", "t((w)|re"},
		{"t{(([r0]|w0)|(r1|[w1]))r2}", 1, "00 0, 0. 0. 0. 0. 0. 0.", "t((r|)re"},
		{"t{(([r0]|w0)|(r1|[w1]))r2}", 1, "00 0, 0, 0, 0. 0. 0. 0.", "t(([))re"},
		{"t{[(|[])[(|)]]}", 1, "00 0. 0, 0. 0. 0, 0. 0. 0. 0. 0. 0, 0. 0,", "t[([][)[(|][]["},
		{"h{(+a|)[-a]}", 1, "00 0. 0. 0. 0. 0. 0. 0, 0. 00", "h(+|[-][eh"},
	})
}

func TestRunThreads(t *testing.T) {
	runAll(t, []runCase{
		{"t{}", 1, "0. 0, 0p 01 07 00 00 0. 0. 0p 00", "_____t_e___"},
		{"t{}t{}", 1, "00 01 0. 01 0. 00", "t_ete_"},
		{"t{}t{}", 2, "00 10 11 01 0. 1. 10 01", "t_t_ee__"},
		{"t{r0}", 2, "00 0p 10 1. 1p 00 0. 0. 10", "tptrpte__"},
		{"t{zr0z}", 1, "00 0. 0. 00 0. 0p 0. 00 0. 00 0.", "tz_trp_tzte"},
		{"t{z}t{z}", 3, "00 21 0. 2. 20 01 0. 2. 10 11", "ttzzttee__"},
		{"t{+a-a}", 1, "00 0. 0p 0. 0p 00 0.", "t+_-pte"},
		{"t{<>}", 1, "00 0. 0p 0. 0p", "t<_>p"},
		{"t{<<>}", 1, "00 0. 0. 0. 0p", "t<<>p"},
		{"t{><}", 1, "00 0. 0p 00 0. 0.", "t>pt<E"},
		{"A{r0}h{}t{A}", 1, "01 0. 00 0. 0.", "trhee"},
		{strings.Repeat("t{}", 8), 1, "07 0. 06 0. 00 0. 07", "tetete_"},
	})
}

func TestRunHandlers(t *testing.T) {
	runAll(t, []runCase{
		{"h{}", 1, "00 00 0p 0. 0. 00 0.", "h__e_he"},
		{"h{}h{}", 1, "01 00 0. 00 01 0.", "h_eh_e"},
		{"h{r0}", 3, "00 10 20 0. 1. 2. 0. 1. 2.", "hhhrrreee"},
		{"h{}t{}", 1, "00 01 0. 01 00 0p 0. 0. 00", "h_eth_eeh"},
		{"h{}t{<z}", 2, "01 0. 00 10 11 01 1. 0.", "t<_h__eS"},
		{"h{r0}t{<>r1}", 1, "01 0. 00 0. 00 0. 00 0. 0. 00", "t<_>hr_erh"},
		{"h{r0}t{+az-a}", 1, "01 0. 00 0. 0. 0.", "t+hreS"},
		{"h{+a-a}t{+b-b}", 1, "01 0. 00 0. 0. 0. 0. 0.", "t+h+-e-e"},
		{"h{+a-a}t{+b-b}", 1, "00 0. 01 0. 0. 01 00", "h+_-eth"},
		{"t{+a-a}h{}", 1, "00 0. 01 0p 0. 0p 0. 0p", "t+h_e_-p"},
	})
}

func TestRunFaults(t *testing.T) {
	runAll(t, []runCase{
		{"t{+a+a}", 1, "00 0. 0. 0. 00", "t+D"},
		{"t{+f+f}", 1, "00 0. 0.", "t+D"},
		{"h{+e+e}", 1, "00 0. 0.", "h+D"},
		{"t{+a-a+a-a}", 1, "00 0. 0. 0. 0. 0.", "t+-+-e"},
		{"t{+c}h{+c}", 1, "00 0. 01 0.", "t+hD"},
		{"t{+a+b+c+d+e+f-a-b-c-d-e-f}", 1, "00" + strings.Repeat("0.", 13), "t++++++------e"},
		{"t{-a}", 1, "00 0. 0.", "tU"},
		{"t{+b-a}", 1, "00 0. 0.", "t+U"},
		{"t{+a-a-a}", 1, "00 0. 0. 0.", "t+-U"},
		{"t{+a-a}h{-a}", 1, "00 0. 01 0.", "t+hU"},
		{"t{-a}h{+a-a}", 2, "10 01 0. 1.", "th+U"},
		{"h{z}", 1, "00 0.", "hS"},
		{"t{}h{z}", 1, "00 01 0.", "thS"},
		{"t{<z}", 1, "00 0. 0.", "t<S"},
		{"t{+fz}", 1, "00 0. 0.", "t+S"},
		{"t{+a-a<>z}h{+b}", 2, "00 11 1. 0. 0. 0. 0. 0. 1.", "th++-<>zE"},
		{"t{+a}", 1, "00 0. 0.", "t+E"},
		{"t{<}", 1, "00 0. 0.", "t<E"},
		{"t{<>}", 1, "00 0. 0. 0.", "t<>e"},
		{"h{+a}", 1, "00 0. 0.", "h+E"},
		{"t{+a}h{}", 1, "00 0. 01 0. 0.", "t+heE"},
		{"h{<}", 1, "00 0.", "hI"},
		{"h{>}", 1, "00 0.", "hI"},
		{"t{}h{r0>}", 1, "00 01 0. 0.", "thrI"},
		{"t{>}", 1, "00 0. 0.", "t>e"},
	})
}

func TestRunWaiting(t *testing.T) {
	runAll(t, []runCase{
		{"t{+a-a}t{+a-a}", 2, "00 11 0. 1. 1, 1p 0. 1. 0. 1. 1.", "tt+::p-_e__"},
		{"t{+a-a}t{r0+a-a}", 2, "00 11 0. 1. 1. 0. 1. 0. 1. 1.", "tt+r:-+e-e"},
		{"t{+a+b}t{+b+a}", 2, "00 11 0. 1. 1.", "tt++W"},
		{"t{+a+b}t{+b+a}", 3, "20 11 2. 1. 2.", "tt++W"},
		{"t{+a+b}t{+b+c}t{+c+a}", 3, "00 11 22 0. 1. 2. 2.", "ttt+++W"},
		{"t{+a+b}t{+b+c}t{+c+a}", 3, "00 11 22 0. 1. 2. 1.", "ttt+++W"},
		{"t{+a+b}t{+b+c}t{+cr0+a}", 3, "00 11 22 0. 1. 2. 0. 1. 2. 0.", "ttt+++::rW"},
		// The ring goes through handlers that work above threads that hold the locks, and through locks of both frames.
		{"t{+a-a}t{+b-b}h{+b-b}h{+a-a}", 2, "00 11 0. 1. 02 13 0.", "tt++hhW"},
		{"t{+a+b}t{+b-b}h{+a-a}", 2, "00 11 0. 1. 0. 12 0.", "tt++:hW"},
		{"t{+a-a}h{+b+c}t{+c+a}", 2, "00 0. 01 0. 12 1. 0.", "t+h+t+W"},
		{"t{+a-a}h{+b+c}t{+c+a}", 2, "00 01 0. 12 1. 0.", "th+t+:"},
		// One that is gone from its `+`, or is interrupted at it, waits no more.
		{"t{+a+b}t{+b+a}h{}", 2, "00 11 0. 1. 12 0. 1. 0.", "tt++h:eW"},
		{"t{+a+b}t{+b+a}h{+c+b}", 2, "00 11 0. 1. 02 1. 0. 1.", "tt++h:+W"},
		// No ring: one stands at its own lock; two others wait for each other; the wanted lock is free.
		{"t{+a+a}t{+b+a}", 2, "00 11 0. 1. 1. 0.", "tt++:D"},
		{"t{+a+b}t{+b+a}t{+c+a}", 3, "00 11 22 0. 1. 2. 2. 2. 0.", "ttt+++::W"},
		{"t{+a+a}t{+b+a}t{+c+b}", 3, "00 11 22 0. 1. 2. 2. 1. 0.", "ttt+++::D"},
		{"t{+a+c}t{+b+a}", 2, "00 11 0. 1. 1. 0.", "tt++:+"},
		{"t{+a-b}t{+b+a}", 2, "00 11 0. 1. 1. 0.", "tt++:U"},
		// To hold a lock oneself goes ahead of every ring.
		{"t{+a+b+a}t{+c+b}", 2, "00 11 0. 0. 1. 1. 0.", "tt+++:D"},
	})
}

func TestRunRaces(t *testing.T) {
	runAll(t, []runCase{
		{"t{w0}t{r0}", 2, "00 11 0.", "ttR"},
		{"t{r0}t{w0}", 2, "00 11 0.", "ttR"},
		{"t{w3}t{w3}", 2, "00 11 0.", "ttR"},
		{"t{r0}t{r0}", 2, "00 11 0. 1.", "ttrr"},
		{"t{w0}t{w1}", 2, "00 11 0. 1.", "ttww"},
		{"t{w0}t{r1}", 2, "00 11 0. 1.", "ttwr"},
		{"t{w0}t{+a-a}", 2, "00 11 0. 1.", "ttw+"},
		{"h{w0}", 3, "10 20 2.", "hhR"},
		{"h{w0}", 1, "00 0. 0.", "hwe"},
		{"t{w0}t{r0}", 2, "00 0. 11 1.", "twtr"},
		{"t{w0}t{r0}", 2, "00 0p 11 1.", "tptr"},
		{"t{zw0}t{r0}", 2, "00 0. 11 1.", "tztr"},
		{"t{w0}t{r0}h{}", 2, "00 11 02 1. 0. 0.", "tthrew"},
		{"t{w0}t{r0}h{}", 2, "00 11 02 0. 1.", "ttheR"},
		{"t{w0}h{w0}", 1, "00 01 0. 0. 0.", "thwew"},
		{"t{r0}t{r0}t{w0}", 3, "00 11 0. 22 1.", "ttrtR"},
		{"t{r0}t{r0}t{w0}", 3, "00 11 22 2.", "tttR"},
		// Locks that both hold don't matter where both stand at the cell; that they can't is what locks are for.
		{"t{+aw0-a}t{+bw0-b}", 2, "00 11 0. 1. 1.", "tt++R"},
		{"t{+aw0-a}t{+aw0-a}", 2, "00 11 0. 1. 0. 1. 0. 1. 1.", "tt+:w:-+w"},
	})
}
