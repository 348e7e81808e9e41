package symbol_test

import (
	"math"
	"math/rand"
	"slices"
	"testing"

	"cassegrain/api"
	"cassegrain/symbol"
)

// P4.4: rules within the limits, and the order of the errors.
func TestCheckRules(t *testing.T) {
	for _, r := range []api.SymbolRules{
		goodRules(),
		{Marker: []int{0}, Length: 2, Verify: 1},
		{Marker: bits("101"), Length: 4, Errors: 1, Verify: 5, Fly: 5},
		{Marker: bits("10"), Length: 6, Verify: 1, Slip: 3},
		{Marker: make([]int, 32), Length: 36, Errors: 15, Verify: 1, Slip: 3},
		{Marker: make([]int, 31), Length: 200, Errors: 15, Verify: 1},
		{Marker: bits("0011"), Length: 8, Errors: 1, Verify: 2},
	} {
		before := slices.Clone(r.Marker)
		wantError(t, r, symbol.CheckRules(r), api.OK)
		wantSame(t, "the marker", r.Marker, before)
	}
	for _, c := range badRules() {
		wantError(t, c.value, symbol.CheckRules(c.value), c.want)
	}
}

// P4.4: example 6, and the edge cases.
func TestMismatches(t *testing.T) {
	for _, c := range []struct {
		marker     string
		mismatches []int
		errors     int
		spacing    [2]int
	}{
		{"001", []int{1, 1}, 0, [2]int{3, 2}},
		{"001", []int{1, 1}, 1, [2]int{1, 1}},
		{"0", nil, 0, [2]int{1, 1}},
		{"1", nil, 32, [2]int{1, 1}},
		{"00", []int{0}, 0, [2]int{1, 2}},
		{"01", []int{1}, 0, [2]int{2, 1}},
		{"1111", []int{0, 0, 0}, 0, [2]int{1, 4}},
		{"1111", []int{0, 0, 0}, 1, [2]int{1, 2}},
		{"0101", []int{3, 0, 1}, 0, [2]int{2, 1}},
		{"0011", []int{1, 2, 1}, 0, [2]int{4, 2}},
		{"0110", []int{2, 2, 0}, 0, [2]int{3, 2}},
		{"0001101", []int{3, 3, 2, 2, 1, 1}, 0, [2]int{7, 6}},
		{"0001101", []int{3, 3, 2, 2, 1, 1}, 1, [2]int{3, 2}},
		{"0001101", []int{3, 3, 2, 2, 1, 1}, 32, [2]int{1, 1}},
	} {
		marker := bits(c.marker)
		got, e := symbol.Mismatches(marker)
		wantSlice(t, c.marker, got, e, c.mismatches)
		if got, e := symbol.SpacingOf(marker, c.errors); e != api.OK || got != c.spacing {
			t.Error(c, got, e)
		}
	}
}

// P4.4: mismatches and spacings by the definition.
func TestSpacingByDefinition(t *testing.T) {
	r := rand.New(rand.NewSource(10))
	for range 500 {
		marker, errors := numbers(r, between(r, 1, 32), 0, 1), r.Intn(5)
		if r.Intn(10) == 0 {
			errors = between(r, 0, 32)
		}
		before := slices.Clone(marker)
		got, e := symbol.Mismatches(marker)
		wantSlice(t, marker, got, e, mismatchesByDefinition(marker))
		if got, e := symbol.SpacingOf(marker, errors); e != api.OK || got != spacingByDefinition(marker, errors) {
			t.Fatal(marker, errors, got, e)
		}
		clear(got)
		wantSame(t, "the marker", marker, before)
	}
}

func TestSpacingErrors(t *testing.T) {
	wantNone := func(marker []int, errors int, want api.Errno) {
		t.Helper()
		got, e := symbol.SpacingOf(marker, errors)
		wantError(t, marker, e, want)
		if got != [2]int{} {
			t.Error(marker, errors, got)
		}
	}
	for _, c := range badMarkers() {
		got, e := symbol.Mismatches(c.value)
		wantNothing(t, c.value, got, e, c.want)
		wantNone(c.value, 0, c.want)
		wantNone(c.value, 33, c.want)
	}
	for _, errors := range badNumbers(0, 32) {
		wantNone(bits("001"), errors, api.ErrRange)
	}
}

// P4.4: example 7, undecided symbols, and the ends of the stream.
func TestWrongAt(t *testing.T) {
	soft := []int{7, -7, 7, 5, 0, -1, -1, 1}
	for _, c := range []struct {
		marker string
		at     int
		want   [2]int
	}{
		{"0110", 0, [2]int{1, 3}},
		{"0110", 1, [2]int{4, 1}},
		{"0110", 4, [2]int{1, 4}},
		{"0", 4, [2]int{1, 1}},
		{"1", 4, [2]int{1, 1}},
		{"0", 7, [2]int{0, 1}},
		{"1", 7, [2]int{1, 0}},
		{"01001110", 0, [2]int{1, 8}},
		{"10110001", 0, [2]int{8, 1}},
	} {
		if got, e := symbol.WrongAt(bits(c.marker), soft, c.at); e != api.OK || got != c.want {
			t.Error(c, got, e)
		}
	}
}

// P4.4: wrong symbols by the definition, at all positions and beyond them.
func TestWrongByDefinition(t *testing.T) {
	r := rand.New(rand.NewSource(11))
	for range 200 {
		marker, soft := numbers(r, between(r, 1, 32), 0, 1), numbers(r, r.Intn(60), -7, 7)
		before, kept := slices.Clone(marker), slices.Clone(soft)
		for at := -2; at < len(soft)+3; at++ {
			got, e := symbol.WrongAt(marker, soft, at)
			switch {
			case at < 0 || at+len(marker) > len(soft):
				if e != api.ErrMissing || got != [2]int{} {
					t.Fatal(marker, soft, at, got, e)
				}
			case e != api.OK || got != wrongByDefinition(marker, soft, at):
				t.Fatal(marker, soft, at, got, e)
			}
		}
		wantSame(t, "the marker", marker, before)
		wantSame(t, "the soft symbols", soft, kept)
	}
}

func TestWrongErrors(t *testing.T) {
	wantNone := func(marker, soft []int, at int, want api.Errno) {
		t.Helper()
		got, e := symbol.WrongAt(marker, soft, at)
		wantError(t, at, e, want)
		if got != [2]int{} {
			t.Error(marker, soft, at, got)
		}
	}
	for _, c := range badMarkers() {
		for _, soft := range [][]int{{1, 2, 3}, nil, {8}, make([]int, 601)} {
			wantNone(c.value, soft, 0, c.want)
			wantNone(c.value, soft, -1, c.want)
		}
	}
	for _, c := range badSoft() {
		wantNone([]int{0}, c.value, 0, c.want)
		wantNone([]int{0}, c.value, -1, c.want)
	}
	for _, at := range badNumbers(0, 1) {
		wantNone([]int{0, 1}, []int{1, 2, 3}, at, api.ErrMissing)
		wantNone([]int{0, 1}, []int{1}, at, api.ErrMissing)
	}
	wantNone([]int{0, 1}, []int{1}, 0, api.ErrMissing)
	wantNone([]int{0}, nil, 0, api.ErrMissing)
	wantNone([]int{0, 1, 1}, []int{1, -1, -1}, math.MaxInt-2, api.ErrMissing)
}

// P4.4: upright, inverted and wrong markers, at the beginning, at the end, and overlapping.
func TestFindMarkers(t *testing.T) {
	rules := func(marker string, errors int) api.SymbolRules {
		return api.SymbolRules{Marker: bits(marker), Length: 40, Errors: errors, Verify: 1}
	}
	up := func(at, wrong int) api.SymbolMark { return api.SymbolMark{At: at, Wrong: wrong} }
	down := func(at, wrong int) api.SymbolMark { return api.SymbolMark{At: at, Inverted: true, Wrong: wrong} }
	for _, c := range []struct {
		rules api.SymbolRules
		soft  []int
		want  []api.SymbolMark
	}{
		{rules("0011", 0), clearly("1100"), []api.SymbolMark{down(0, 0)}},
		{rules("0011", 0), clearly("0011"), []api.SymbolMark{up(0, 0)}},
		{rules("0011", 0), clearly("001100"), []api.SymbolMark{up(0, 0), down(2, 0)}},
		{rules("0011", 0), clearly("1 0011 0 1100"), []api.SymbolMark{up(1, 0), down(6, 0)}},
		{rules("0011", 0), clearly("001"), nil},
		{rules("0011", 0), nil, nil},
		{rules("0011", 1), []int{7, 0, -1, -1}, []api.SymbolMark{up(0, 1)}},
		{rules("0011", 0), []int{7, 0, -1, -1}, nil},
		{rules("0011", 1), []int{7, 0, 0, -1}, nil},
		{rules("0011", 1), []int{-7, 0, 1, 1}, []api.SymbolMark{down(0, 1)}},
		{rules("0011", 1), clearly("0111 0100"), []api.SymbolMark{up(0, 1), down(1, 1), down(2, 1), down(4, 1)}},
		{rules("0", 0), []int{3, -3, 0, 1}, []api.SymbolMark{up(0, 0), down(1, 0), up(3, 0)}},
		{rules("00", 0), []int{1, 1, 1, -1, -1}, []api.SymbolMark{up(0, 0), up(1, 0), down(3, 0)}},
	} {
		got, e := symbol.FindMarkers(c.rules, c.soft)
		wantSlice(t, c, got, e, c.want)
	}
}

// P4.4: found markers by the definition. P4.9: with opposite signs the same ones are found, inverted. P4.10: they are as far apart as the spacing says.
func TestFoundByDefinition(t *testing.T) {
	r := rand.New(rand.NewSource(12))
	for range 1000 {
		rules := randomRules(r)
		soft := randomStream(r, rules)
		before, kept := slices.Clone(soft), slices.Clone(rules.Marker)
		found, e := symbol.FindMarkers(rules, soft)
		wantSlice(t, rules, found, e, foundByDefinition(rules, soft))
		other := slices.Clone(found)
		for i := range other {
			other[i].Inverted = !other[i].Inverted
		}
		got, e := symbol.FindMarkers(rules, opposite(soft))
		wantSlice(t, rules, got, e, other)
		wantSpaced(t, rules, found)
		wantSame(t, "the soft symbols", soft, before)
		wantSame(t, "the marker", rules.Marker, kept)
	}
}

// distances returns the least distances of two positions at which markers are found, with the same inversion and with opposite ones; at most the given ones.
func distances(found []api.SymbolMark, most [2]int) [2]int {
	for i, a := range found {
		for _, b := range found[i+1:] {
			side := 0
			if a.Inverted != b.Inverted {
				side = 1
			}
			most[side] = min(most[side], b.At-a.At)
		}
	}
	return most
}

// wantSpaced reports found markers that are closer to one another than the spacing says.
func wantSpaced(t *testing.T, rules api.SymbolRules, found []api.SymbolMark) {
	t.Helper()
	spacing, e := symbol.SpacingOf(rules.Marker, rules.Errors)
	if e != api.OK || distances(found, spacing) != spacing {
		t.Fatal(rules, found, spacing, e)
	}
}

// P4.10: all streams of few symbols, in which markers overlap in all ways. The spacing is reached if no symbols may be wrong.
func TestSpacingInAllStreams(t *testing.T) {
	markers := []string{"0", "00", "01", "000", "001", "010", "011", "0000", "0001", "0010", "0011", "0101", "0110", "0111", "00000", "00011", "00110", "01010", "01101"}
	for _, marker := range markers {
		for errors := range (len(marker) + 1) / 2 {
			rules := api.SymbolRules{Marker: bits(marker), Length: 40, Errors: errors, Verify: 1}
			least := [2]int{len(marker), len(marker)}
			for stream := range 1 << 10 {
				soft := make([]int, 10)
				for i := range soft {
					soft[i] = 3 - 6*(stream>>i&1)
				}
				found, e := symbol.FindMarkers(rules, soft)
				wantError(t, rules, e, api.OK)
				wantSpaced(t, rules, found)
				least = distances(found, least)
			}
			if spacing, _ := symbol.SpacingOf(rules.Marker, errors); errors == 0 && spacing != least {
				t.Error(marker, spacing, least)
			}
		}
	}
}

// P4.4, P4.5: the errors of rules come before those of the soft symbols.
func TestReceiverErrors(t *testing.T) {
	wantNone := func(r api.SymbolRules, soft []int, want api.Errno) {
		t.Helper()
		marks, e := symbol.FindMarkers(r, soft)
		wantNothing(t, r, marks, e, want)
		marks, e = symbol.Marks(r, soft)
		wantNothing(t, r, marks, e, want)
		frames, e := symbol.Frames(r, soft)
		wantError(t, r, e, want)
		wantFrames(t, r, frames, nil)
	}
	for _, c := range badRules() {
		wantNone(c.value, clearly("0011"), c.want)
		wantNone(c.value, []int{8}, c.want)
		wantNone(c.value, make([]int, 601), c.want)
	}
	for _, c := range badSoft() {
		wantNone(goodRules(), c.value, c.want)
	}
}
