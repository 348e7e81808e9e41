package pass_test

import (
	"math"
	"strconv"
	"strings"
	"testing"

	"cassegrain/api"
	"cassegrain/pass"
)

// goodEntries returns a valid entry of each kind.
func goodEntries() []api.PassEntry {
	return with(nil,
		"join ada 0 2 bo", "set ada 1 0 loop 1 0 2 0", "take bo 2 0 any text", "frame bo 3 0 0 5 0", "measure bo 4 0 at 0 1 2",
		"command cy 5 0 send 0", "note vi 6 0 ", "end ada 7 0 ",
	)
}

// entryFault makes a valid entry invalid: the part that it changes, how it is changed, and the error.
type entryFault struct {
	part  string
	spoil func(*api.PassEntry)
	want  api.Errno
}

// entryFaults returns the faults of entries of a kind, in the order in which they are checked.
func entryFaults(kind int) []entryFault {
	var l []entryFault
	add := func(part string, want api.Errno, spoil func(*api.PassEntry)) {
		l = append(l, entryFault{part, spoil, want})
	}
	for _, n := range badNumbers(0, 7) {
		add("kind", api.ErrKind, func(e *api.PassEntry) { e.Kind = n })
	}
	for _, name := range badNames() {
		add("by", api.ErrName, func(e *api.PassEntry) { e.By = name })
	}
	for _, n := range badNumbers(0, api.MaxTick) {
		add("at", api.ErrRange, func(e *api.PassEntry) { e.At = n })
	}
	for _, n := range []int{math.MinInt, -1, 4, math.MaxInt, 1, 2, 3} {
		switch {
		case kind != api.PassJoin:
			add("number", api.ErrForm, func(e *api.PassEntry) { e.Number = n })
		case n < 0 || n > 3:
			add("number", api.ErrRange, func(e *api.PassEntry) { e.Number = n })
		}
	}
	add("text", api.ErrLarge, func(e *api.PassEntry) { e.Text = strings.Repeat("x", 801) })
	add("text", api.ErrLarge, func(e *api.PassEntry) { e.Text = strings.Repeat("\n", 5000) })
	for _, s := range []string{"\n", "\x00", "\x1f", "\x7f", "\x80", "\xff", "caf\u00e9", "a\tb", "ada\n", strings.Repeat("x", 799) + "\x7f"} {
		add("text", api.ErrForm, func(e *api.PassEntry) { e.Text = s })
	}
	for _, s := range badNames() {
		switch {
		case !textForm.MatchString(s):
		case kind == api.PassJoin:
			add("text", api.ErrName, func(e *api.PassEntry) { e.Text = s })
		case kind == api.PassEnd && s != "":
			add("text", api.ErrForm, func(e *api.PassEntry) { e.Text = s })
		}
	}
	return l
}

// badNames returns strings that are not names.
func badNames() []string {
	return []string{"", "9a", "-a", "a b", " a", "a ", "a_b", "a.b", "abcdefghijklm", "a\n", "\x80", "\u00e9", strings.Repeat("x", 800)}
}

// P10.1: entries of all kinds, and their limits.
func TestCheckEntry(t *testing.T) {
	for kind, e := range goodEntries() {
		fine := func(e api.PassEntry) {
			t.Helper()
			wantError(t, e, pass.CheckEntry(e), api.OK)
		}
		if e.Kind != kind {
			t.Error(e)
		}
		fine(e)
		for _, name := range []string{"a", "Z", "z-9", "A----------9", "abcdefghijkl"} {
			e.By = name
			fine(e)
		}
		for _, at := range []int{0, 1, api.MaxTick - 1, api.MaxTick} {
			e.At = at
			fine(e)
		}
		switch kind {
		case api.PassJoin:
			for role := range 4 {
				e.Number = role
				fine(e)
			}
			for _, name := range []string{"a", "Z", "z-9", "A----------9", "abcdefghijkl"} {
				e.Text = name
				fine(e)
			}
		case api.PassEnd:
		default:
			for _, s := range []string{"", " ", "~", strings.Repeat(" ", 800), strings.Repeat("~", 800), "a  b "} {
				e.Text = s
				fine(e)
			}
		}
	}
}

// P10.1: the errors of entries, and their order.
func TestCheckEntryErrors(t *testing.T) {
	counts := map[api.Errno]int{}
	for kind, good := range goodEntries() {
		faults := entryFaults(kind)
		for i, f := range faults {
			bad := good
			f.spoil(&bad)
			wantError(t, bad, pass.CheckEntry(bad), f.want)
			wantError(t, bad, entryErrorByDefinition(bad), f.want)
			counts[f.want]++
			for _, g := range faults[i+1:] {
				if g.part != f.part {
					bad := good
					f.spoil(&bad)
					g.spoil(&bad)
					wantError(t, bad, pass.CheckEntry(bad), f.want)
				}
			}
		}
	}
	for _, want := range []api.Errno{api.ErrKind, api.ErrName, api.ErrRange, api.ErrForm, api.ErrLarge} {
		if counts[want] < 8 {
			t.Error(want, counts)
		}
	}
	wantError(t, "a long text before its bytes", pass.CheckEntry(api.PassEntry{Kind: api.PassJoin, By: "ada", Text: strings.Repeat("\n", 801)}), api.ErrLarge)
}

// P10.6: strings of entries, also of those that are not valid.
func TestFormatEntry(t *testing.T) {
	for want, e := range map[string]api.PassEntry{
		"join ada 0 2 ada":                                 {Kind: api.PassJoin, By: "ada", Number: 2, Text: "ada"},
		"set ada 10 0 loop 1 0 2 0":                        {Kind: api.PassSet, By: "ada", At: 10, Text: "loop 1 0 2 0"},
		"take bo 1000000000000 0 x":                        {Kind: api.PassTake, By: "bo", At: api.MaxTick, Text: "x"},
		"frame bo 1 0  5 ":                                 {Kind: api.PassFrame, By: "bo", At: 1, Text: " 5 "},
		"measure bo 1 0 at 0 1 2":                          {Kind: api.PassMeasure, By: "bo", At: 1, Text: "at 0 1 2"},
		"command cy 1 0 send 0":                            {Kind: api.PassCommand, By: "cy", At: 1, Text: "send 0"},
		"note vi 1 0 ":                                     {Kind: api.PassNote, By: "vi", At: 1},
		"end ada 1 0 ":                                     {Kind: api.PassEnd, By: "ada", At: 1},
		"end  -1 -2 a\nb":                                  {Kind: api.PassEnd, At: -1, Number: -2, Text: "a\nb"},
		"note a b 9999999999999 77 \x00":                   {Kind: api.PassNote, By: "a b", At: 9999999999999, Number: 77, Text: "\x00"},
		"join x -9223372036854775808 9223372036854775807 ": {By: "x", At: math.MinInt, Number: math.MaxInt},
	} {
		if s := pass.FormatEntry(e); s != want {
			t.Errorf("%q, want %q", s, want)
		}
	}
	for _, kind := range badNumbers(0, 7) {
		if s := pass.FormatEntry(api.PassEntry{Kind: kind, By: "ada", Text: "x"}); s != "" {
			t.Error(kind, s)
		}
	}
}

// P10.6, P10.14: strings and back.
func TestParseEntry(t *testing.T) {
	for _, good := range append(longLog(), goodEntries()...) {
		for _, at := range []int{good.At, 0, api.MaxTick} {
			good.At = at
			s := pass.FormatEntry(good)
			if s != stringByDefinition(good) {
				t.Errorf("%q", s)
			}
			e, errno := pass.ParseEntry(s)
			wantValue(t, s, e, errno, good)
		}
	}
	for _, s := range []string{"", " ", "  ", "a", strings.Repeat(" ", 800), "join ada 0 2 ada"} {
		want := api.PassEntry{Kind: api.PassNote, By: "vi", At: 7, Text: s}
		e, errno := pass.ParseEntry("note vi 7 0 " + s)
		wantValue(t, s, e, errno, want)
	}
}

// P10.6: strings that are malformed, and those of entries that are not valid.
func TestParseEntryErrors(t *testing.T) {
	fails := func(s string, want api.Errno) {
		t.Helper()
		e, errno := pass.ParseEntry(s)
		wantNoValue(t, strconv.Quote(s), e, errno, want)
	}
	for _, s := range []string{
		"", " ", "    ", "join", "join ada", "join ada 0", "join ada 0 2", "note vi 7 0", "end ada 7 0", "Join ada 0 2 ada", "JOIN ada 0 2 ada", "joined ada 0 2 ada", "joi ada 0 2 ada",
		" join ada 0 2 ada", "join  ada 0 2 ada", "join ada  0 2 ada", "join ada 0  2 ada", "join\tada 0 2 ada", "0 ada 0 2 ada", " ada 0 2 ada", "notes vi 0 0 x", "set,ada,0,0,x",
		"note vi  0 x", "note vi 0  x", "note a b 0 0 x",
	} {
		fails(s, api.ErrSyntax)
	}
	for _, n := range []string{"", "-1", "-0", "+1", "01", "00", "x", "1x", "1.0", "\u0661", "/", ":", "10000000000000", "00000000000001", "9223372036854775808", "18446744073709551616"} {
		fails("note vi "+n+" 0 x", api.ErrSyntax)
		fails("note vi 0 "+n+" x", api.ErrSyntax)
		fails("join vi 0 "+n+" x", api.ErrSyntax)
	}
	fails("join ada 0 10 ada", api.ErrSyntax)
	fails("note  0 0 x", api.ErrName) // By may be empty
	fails("note  1x 0 x", api.ErrSyntax)
	fails("note a_b 0 0 x", api.ErrName)
	fails("note vi 1000000000001 0 x", api.ErrRange)
	fails("note vi 9999999999999 9 x", api.ErrRange)
	fails("note vi 0 1 x", api.ErrForm)
	fails("note vi 0 9 x\n", api.ErrForm)
	fails("note vi 0 0 x\n", api.ErrForm)
	fails("join ada 0 4 ada", api.ErrRange)
	fails("join ada 0 9 ada", api.ErrRange)
	fails("join ada 0 2 a b", api.ErrName)
	fails("join ada 0 2 ", api.ErrName)
	fails("end ada 0 0 x", api.ErrForm)
	fails("end ada 0 0  ", api.ErrForm)
	fails("note vi 0 0 "+strings.Repeat("x", 801), api.ErrLarge)
	fails("join ada 0 2 "+strings.Repeat("x", 801), api.ErrLarge)
	fails("join ada 0 2 "+strings.Repeat("x", 800), api.ErrName)
	fails(strings.Repeat("x", 100000), api.ErrSyntax)
	fails(strings.Repeat(" ", 100000), api.ErrSyntax)
	fails("note vi 0 0 "+strings.Repeat("\x00", 100000), api.ErrLarge)
}
