package symbol_test

import (
	"math"
	"math/rand"
	"slices"
	"strings"
	"testing"

	"cassegrain/api"
	"cassegrain/symbol"
)

// P4.6: example 9, and numbers that are no bits.
func TestFormatBits(t *testing.T) {
	for want, l := range map[string][]int{
		"0011":   {0, 0, 1, 1},
		"":       {},
		"1":      {1},
		"0?1?":   {0, 2, 1, -1},
		"?????0": {math.MinInt, math.MaxInt, 256, 257, -255, 0},
	} {
		if s := symbol.FormatBits(l); s != want {
			t.Error(l, s)
		}
	}
	if s := symbol.FormatBits(make([]int, 700)); s != strings.Repeat("0", 700) {
		t.Error(len(s))
	}
}

// P4.6: strings of bits and others, the number of bytes before the characters.
func TestParseBits(t *testing.T) {
	for s, want := range map[string][]int{
		"0011": {0, 0, 1, 1}, "": {}, "0": {0}, "1": {1}, strings.Repeat("1", 600): slices.Repeat([]int{1}, 600),
	} {
		got, e := symbol.ParseBits(s)
		wantSlice(t, s, got, e, want)
	}
	for s, want := range map[string]api.Errno{
		"2": api.ErrSyntax, "/": api.ErrSyntax, "?": api.ErrSyntax, "0 1": api.ErrSyntax, "01 ": api.ErrSyntax, " 01": api.ErrSyntax, "-1": api.ErrSyntax,
		"01\n": api.ErrSyntax, "\x00": api.ErrSyntax, "1\xff": api.ErrSyntax, "\u0661": api.ErrSyntax, "011a": api.ErrSyntax,
		strings.Repeat("0", 601):       api.ErrLarge,
		strings.Repeat("0", 600) + "2": api.ErrLarge,
		strings.Repeat("2", 60000):     api.ErrLarge,
		strings.Repeat("0", 599) + "2": api.ErrSyntax,
	} {
		got, e := symbol.ParseBits(s)
		wantNothing(t, s, got, e, want)
	}
}

// P4.6: example 9, and numbers that are no soft symbols.
func TestFormatSoft(t *testing.T) {
	for want, l := range map[string][]int{
		"7 -7 0":   {7, -7, 0},
		"":         {},
		"-1":       {-1},
		"8 -100 3": {8, -100, 3},
		"9223372036854775807 -9223372036854775808": {math.MaxInt, math.MinInt},
	} {
		if s := symbol.FormatSoft(l); s != want {
			t.Error(l, s)
		}
	}
	if s := symbol.FormatSoft(nil); s != "" {
		t.Error(s)
	}
}

// P4.6: strings of soft symbols and others: the form of all comes before their number, and this before their range.
func TestParseSoft(t *testing.T) {
	for s, want := range map[string][]int{
		"7 -7 0": {7, -7, 0}, "": {}, "0": {0}, "-3": {-3}, "0" + strings.Repeat(" -5", 599): append([]int{0}, slices.Repeat([]int{-5}, 599)...),
	} {
		got, e := symbol.ParseSoft(s)
		wantSlice(t, s, got, e, want)
	}
	many := strings.Repeat("1 ", 600)
	for s, want := range map[string]api.Errno{
		" ": api.ErrSyntax, "1 ": api.ErrSyntax, " 1": api.ErrSyntax, "1  2": api.ErrSyntax, "-": api.ErrSyntax, "1 -": api.ErrSyntax, "--1": api.ErrSyntax,
		"- 1": api.ErrSyntax, "-0": api.ErrSyntax, "1 -0 1": api.ErrSyntax, "+1": api.ErrSyntax, "07": api.ErrSyntax, "00": api.ErrSyntax, "10": api.ErrSyntax,
		"-10": api.ErrSyntax, "1,2": api.ErrSyntax, "1\t2": api.ErrSyntax, "1\n": api.ErrSyntax, "a": api.ErrSyntax, "1-": api.ErrSyntax, "1-2": api.ErrSyntax,
		":": api.ErrSyntax, "/": api.ErrSyntax, "\xff": api.ErrSyntax, "\u0661": api.ErrSyntax,
		"8": api.ErrRange, "9": api.ErrRange, "-8": api.ErrRange, "-9": api.ErrRange, "7 -7 8": api.ErrRange,
		"8 x": api.ErrSyntax, "9 10": api.ErrSyntax,
		many + "1": api.ErrLarge, many + "9": api.ErrLarge, "9 " + many + "1": api.ErrLarge,
		many + "x": api.ErrSyntax, many: api.ErrSyntax, many + "9 -0": api.ErrSyntax,
		many[2:] + "9": api.ErrRange,
	} {
		got, e := symbol.ParseSoft(s)
		wantNothing(t, s, got, e, want)
	}
}

// P4.13: strings and back.
func TestFormatAndBack(t *testing.T) {
	r := rand.New(rand.NewSource(9))
	for range 300 {
		l := numbers(r, r.Intn(601), 0, 1)
		got, e := symbol.ParseBits(symbol.FormatBits(l))
		wantSlice(t, l, got, e, l)
		soft := numbers(r, r.Intn(601), -7, 7)
		got, e = symbol.ParseSoft(symbol.FormatSoft(soft))
		wantSlice(t, soft, got, e, soft)
	}
}
