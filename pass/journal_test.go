package pass_test

import (
	"math/rand"
	"slices"
	"strconv"
	"strings"
	"testing"

	"cassegrain/api"
	"cassegrain/pass"
)

// wantRecovered reports what is recovered of a string against the wanted log, and the wanted error of CheckJournal.
func wantRecovered(t *testing.T, s string, want []api.PassEntry, wanted api.Errno) {
	t.Helper()
	what := strconv.Quote(s[max(0, len(s)-40):])
	l, n, e := pass.Recovered(s)
	wantValue(t, what, l, e, want)
	wantValue(t, what, n, e, len(journalByDefinition(want)))
	i, e := pass.CheckJournal(s)
	wantError(t, what, e, wanted)
	if wanted == api.OK && i != 0 || wanted != api.OK && i != len(want) {
		t.Errorf("%v: %d, want %d", what, i, len(want))
	}
}

// P10.6: example 6, sums in two parts, and their errors.
func TestSumOf(t *testing.T) {
	for s, want := range map[string]int{"": 0, "A": 66, "AB": 17029, "\x00": 1, "\xff": 256, "\xff\xff": 256*257 + 256} {
		sum, e := pass.SumOf(s, 0)
		wantValue(t, s, sum, e, want)
	}
	for s, want := range map[string]int{"": 1000002, "A": 1000003 - 257 + 66, "\xff": 1000002} {
		sum, e := pass.SumOf(s, 1000002)
		wantValue(t, s, sum, e, want)
	}
	for _, after := range badNumbers(0, 1000002) {
		for _, s := range []string{"", "A"} {
			sum, e := pass.SumOf(s, after)
			wantNoValue(t, after, sum, e, api.ErrRange)
		}
	}
	r := rand.New(rand.NewSource(6))
	for range 300 {
		b := make([]byte, r.Intn(100))
		r.Read(b)
		s, after := string(b), r.Intn(1000003)
		whole, e := pass.SumOf(s, after)
		wantValue(t, s, whole, e, sumByDefinition(s, after))
		cut := r.Intn(len(s) + 1)
		first, _ := pass.SumOf(s[:cut], after)
		second, e := pass.SumOf(s[cut:], first)
		wantValue(t, s, second, e, whole)
	}
}

// P10.6: example 7, the journal of the empty log, and journals by definition.
func TestJournal(t *testing.T) {
	s, e := pass.Journal(nil)
	wantValue(t, "the empty log", s, e, "")
	s, e = pass.Journal(exampleLog()[:1])
	sum, _ := pass.SumOf("join ada 0 2 ada", 0)
	wantValue(t, "one entry", s, e, strconv.Itoa(sum)+" join ada 0 2 ada\n")
	r := rand.New(rand.NewSource(7))
	for i := range 150 {
		l := longLog()
		if i > 0 {
			l = randomLog(r, 80, quiet)
		}
		before := text(l)
		s, e := pass.Journal(l)
		wantValue(t, l, s, e, journalByDefinition(l))
		wantSame(t, l, before)
		wantRecovered(t, s, l, api.OK)
	}
}

// P10.6, P10.10: example 8, and a journal that is cut at any byte: exactly the entries of its whole lines are recovered.
func TestRecoveredCut(t *testing.T) {
	for _, l := range [][]api.PassEntry{exampleLog(), longLog(), with(longLog(), "end ada 40 0 ")} {
		s, _ := pass.Journal(l)
		for cut := range len(s) + 1 {
			lines := strings.Count(s[:cut], "\n")
			want := api.ErrGap
			if cut == 0 || s[cut-1] == '\n' {
				want = api.OK
			}
			wantRecovered(t, s[:cut], l[:lines], want)
		}
	}
}

// P10.6, P10.10: one byte is replaced by another one: exactly the lines before it are recovered.
func TestRecoveredChanged(t *testing.T) {
	r := rand.New(rand.NewSource(8))
	l := longLog()
	s, _ := pass.Journal(l)
	for at := range len(s) {
		if s[at] == '\n' {
			continue
		}
		lines := strings.Count(s[:at], "\n")
		for _, b := range []byte{' ', '0', s[at] + 1, s[at] ^ 0x20, byte(r.Intn(256)), 0, '\r'} {
			if b == s[at] || b == '\n' {
				continue
			}
			wantRecovered(t, s[:at]+string([]byte{b})+s[at+1:], l[:lines], api.ErrSum)
		}
	}
	short, _ := pass.Journal(l[:2])
	for at := range len(short) {
		for b := range 256 {
			if short[at] != '\n' && byte(b) != short[at] && b != '\n' {
				wantRecovered(t, short[:at]+string([]byte{byte(b)})+short[at+1:], l[:strings.Count(short[:at], "\n")], api.ErrSum)
			}
		}
	}
}

// P10.6: lines that are no lines of the journal, after and before lines that are.
func TestRecoveredBroken(t *testing.T) {
	l := exampleLog()
	s, _ := pass.Journal(l)
	for _, rest := range []string{"\n", " \n", "x\n", "0\n", "0 \n", "\n\n", "x\ny", "\nx", s, s[:20], s + "x"} {
		want := api.ErrSum
		if !strings.Contains(rest, "\n") {
			want = api.ErrGap
		}
		wantRecovered(t, s+rest, l, want)
	}
	for _, rest := range []string{"x", " ", "\x00", "0 note ada 20 0 "} {
		wantRecovered(t, s+rest, l, api.ErrGap)
		wantRecovered(t, rest, nil, api.ErrGap)
		wantRecovered(t, rest+"\n", nil, api.ErrSum)
		wantRecovered(t, rest+s, nil, api.ErrSum)
	}
	lines := strings.SplitAfter(s, "\n")
	wantRecovered(t, lines[1], nil, api.ErrSum)
	wantRecovered(t, lines[0]+lines[0], l[:1], api.ErrSum)
	wantRecovered(t, lines[0]+lines[2]+lines[1], l[:1], api.ErrSum)
	wantRecovered(t, lines[0]+"\n"+lines[1], l[:1], api.ErrSum)
	wantRecovered(t, strings.ReplaceAll(s, "\n", "\r\n"), nil, api.ErrSum)
	wantRecovered(t, strings.TrimSuffix(s, "\n")+" \n", l[:4], api.ErrSum)
	sum, _, _ := strings.Cut(s, " ")
	for _, digits := range []string{"", "0" + sum, "+" + sum, "-" + sum, sum + " ", sum + ".0", strconv.Itoa(sumByDefinition("join ada 0 2 ada", 0) + 1000003)} {
		wantRecovered(t, digits+s[len(sum):], nil, api.ErrSum)
	}
}

// P10.6: lines with right sums, whose entries are malformed, not valid, or not permitted, and those after them.
func TestRecoveredNotPermitted(t *testing.T) {
	good := []string{"join ada 0 2 ada", "join ada 5 1 bo"}
	for _, s := range []string{
		"", " ", "join", "note ada 5 0", "Note ada 5 0 x", "note ada 05 0 x", "note ada 5 00 x", "note ada -5 0 x", "note ada 5 1 x", "note  5 0 x", "note ada 5 0 \x7f", "note ada 4 0 x", "note eve 5 0 x",
		"set bo 5 0 loop 1 0 2 0", "set ada 5 0 loop 1 0 0 0", "take bo 5 0 x", "frame bo 5 0 0 5 0 9 0 1 7", "join bo 5 1 bo", "end ada 5 0 x", "note ada 5 0 " + strings.Repeat("x", 801),
	} {
		for _, after := range [][]string{nil, {"note ada 6 0 fine"}} {
			wantRecovered(t, journalOf(slices.Concat(good, []string{s}, after)...), with(nil, good...), api.ErrSum)
		}
	}
	wantRecovered(t, journalOf("note ada 0 0 x"), nil, api.ErrSum)
	wantRecovered(t, journalOf("join ada 0 2 bo"), nil, api.ErrSum)
	wantRecovered(t, journalOf(slices.Concat(good, []string{"end ada 6 0 ", "note ada 6 0 x"})...), with(nil, "join ada 0 2 ada", "join ada 5 1 bo", "end ada 6 0 "), api.ErrSum)
	wantRecovered(t, journalOf(good...)+"note ada 6 0 x", with(nil, good...), api.ErrGap)
}

// P10.6: journals of 61 lines, and how many bytes a string may have.
func TestRecoveredLarge(t *testing.T) {
	lines := []string{"join ada 0 2 ada"}
	for len(lines) < 61 {
		lines = append(lines, "note ada 1000000000000 0 "+strings.Repeat("x", 800))
	}
	full := with(nil, lines[:60]...)
	wantRecovered(t, journalOf(lines[:60]...), full, api.OK)
	wantRecovered(t, journalOf(lines...), full, api.ErrSum)
	s := journalOf(lines[:60]...)
	wantRecovered(t, s+strings.Repeat("x", 60000-len(s)), full, api.ErrGap)
	wantRecovered(t, s+strings.Repeat("\n", 60000-len(s)), full, api.ErrSum)
	wantRecovered(t, strings.Repeat("\n", 60000), nil, api.ErrSum)
	wantRecovered(t, strings.Repeat(" ", 60000), nil, api.ErrGap)
	for _, s := range []string{s + strings.Repeat("x", 60001-len(s)), s + strings.Repeat("\n", 60001-len(s)), strings.Repeat("\n", 60001), strings.Repeat("x", 1000000)} {
		l, n, e := pass.Recovered(s)
		wantNoValue(t, "a large string", l, e, api.ErrLarge)
		wantNoValue(t, "a large string", n, e, api.ErrLarge)
		i, e := pass.CheckJournal(s)
		wantNoValue(t, "a large string", i, e, api.ErrLarge)
	}
	l, e := pass.Journal(make([]api.PassEntry, 61))
	wantNoValue(t, "61 entries", l, e, api.ErrLarge)
}

// P10.6: what is recovered shares no memory with later results.
func TestRecoveredApart(t *testing.T) {
	s, _ := pass.Journal(exampleLog())
	l, _, _ := pass.Recovered(s)
	l[0].By = "eve"
	again, n, e := pass.Recovered(s)
	wantValue(t, "again", again, e, exampleLog())
	wantValue(t, "again", n, e, len(s))
}
