package code_test

import (
	"math"
	"math/rand"
	"slices"
	"strings"
	"testing"

	"cassegrain/api"
	"cassegrain/code"
)

// P5.7: example 9, and numbers that are no elements.
func TestFormatWord(t *testing.T) {
	for want, l := range map[string][]int{
		"0f3":              {0, 15, 3},
		"":                 nil,
		"0123456789abcdef": {0, 1, 2, 3, 4, 5, 6, 7, 8, 9, 10, 11, 12, 13, 14, 15},
		"?a?":              {-1, 10, 16},
		"?????":            {math.MinInt, math.MaxInt, 256, 271, -16},
	} {
		if s := code.FormatWord(l); s != want {
			t.Error(l, s)
		}
	}
	if s := code.FormatWord(slices.Repeat([]int{12}, 500)); s != strings.Repeat("c", 500) {
		t.Error(len(s))
	}
}

// P5.7: strings of elements and others, the number of bytes before the characters.
func TestParseWord(t *testing.T) {
	for s, want := range map[string][]int{
		"0f3": {0, 15, 3}, "": nil, "9a": {9, 10}, strings.Repeat("e", 400): slices.Repeat([]int{14}, 400),
	} {
		got, e := code.ParseWord(s)
		wantSlice(t, s, got, e, want)
	}
	for s, want := range map[string]api.Errno{
		"g": api.ErrSyntax, "A": api.ErrSyntax, "F": api.ErrSyntax, "?": api.ErrSyntax, "/": api.ErrSyntax, ":": api.ErrSyntax, "`": api.ErrSyntax, "@": api.ErrSyntax,
		"0 1": api.ErrSyntax, " 0": api.ErrSyntax, "0\n": api.ErrSyntax, "-1": api.ErrSyntax, "0x1": api.ErrSyntax, "\x00": api.ErrSyntax, "1\xff": api.ErrSyntax, "\u0661": api.ErrSyntax,
		strings.Repeat("0", 401):       api.ErrLarge,
		strings.Repeat("0", 400) + "g": api.ErrLarge,
		strings.Repeat("g", 40000):     api.ErrLarge,
		strings.Repeat("0", 399) + "g": api.ErrSyntax,
	} {
		got, e := code.ParseWord(s)
		wantNothing(t, s, got, 0, e, want)
	}
}

// P5.7: all bytes but the sixteen characters are errors.
func TestParseBytes(t *testing.T) {
	for b := range 256 {
		got, e := code.ParseWord(string([]byte{byte(b)}))
		if n := strings.IndexByte("0123456789abcdef", byte(b)); n >= 0 {
			wantSlice(t, b, got, e, []int{n})
		} else {
			wantNothing(t, b, got, 0, e, api.ErrSyntax)
		}
	}
}

// P5.14: strings and back.
func TestFormatAndBack(t *testing.T) {
	r := rand.New(rand.NewSource(22))
	for range 300 {
		l := numbers(r, r.Intn(401), 0, 15)
		got, e := code.ParseWord(code.FormatWord(l))
		wantSlice(t, l, got, e, l)
		if s := code.FormatWord(got); s != code.FormatWord(l) {
			t.Error(l, s)
		}
	}
}
