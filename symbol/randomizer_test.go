package symbol_test

import (
	"math/rand"
	"slices"
	"testing"

	"cassegrain/api"
	"cassegrain/symbol"
)

// allRandomizers returns all valid randomizers up to a degree.
func allRandomizers(degree int) []api.SymbolRandomizer {
	var l []api.SymbolRandomizer
	for d := 1; d <= degree; d++ {
		for taps := 1; taps < 1<<d; taps += 2 {
			for seed := 1; seed < 1<<d; seed++ {
				l = append(l, api.SymbolRandomizer{Degree: d, Taps: taps, Seed: seed})
			}
		}
	}
	return l
}

// P4.3: example 5, and the least and the greatest registers.
func TestSequenceOf(t *testing.T) {
	for _, c := range []struct {
		degree, taps, seed int
		sequence           string
		period             int
	}{
		{3, 3, 1, "1001011 1001011 100", 7},
		{3, 3, 4, "0010111 0010111", 7},
		{3, 1, 1, "100 100 1", 3},
		{3, 1, 7, "111 111", 1},
		{3, 7, 1, "1001 1001 1", 4},
		{3, 7, 2, "01 01 01", 2},
		{1, 1, 1, "1111", 1},
		{2, 3, 1, "101 101", 3},
		{2, 3, 2, "011 011", 3},
		{2, 1, 2, "01 01", 2},
		{8, 1, 128, "00000001 00000001 0", 8},
		{8, 29, 1, "10000000 10001", 255},
		{8, 255, 255, "111111110 111111110 1", 9},
	} {
		r := api.SymbolRandomizer{Degree: c.degree, Taps: c.taps, Seed: c.seed}
		want := bits(c.sequence)
		for count := range len(want) + 1 {
			got, e := symbol.SequenceOf(r, count)
			wantSlice(t, r, got, e, want[:count])
		}
		if n, e := symbol.PeriodOf(r); e != api.OK || n != c.period {
			t.Error(r, n, e)
		}
	}
}

// P4.3: sequences and periods by the definition. P4.8: the sequence repeats after its period, which is at most 2 to the power Degree, minus 1.
func TestSequenceByDefinition(t *testing.T) {
	all := allRandomizers(5)
	r := rand.New(rand.NewSource(7))
	for range 200 {
		all = append(all, randomRandomizer(r))
	}
	for _, randomizer := range all {
		want := sequenceByDefinition(randomizer, 600)
		got, e := symbol.SequenceOf(randomizer, 600)
		wantSlice(t, randomizer, got, e, want)
		period, e := symbol.PeriodOf(randomizer)
		if e != api.OK || period != periodByDefinition(randomizer) || period > 1<<randomizer.Degree-1 {
			t.Fatal(randomizer, period, e)
		}
		wantSame(t, randomizer, got[period:], got[:600-period])
	}
}

func TestSequenceErrors(t *testing.T) {
	for _, c := range badRandomizers() {
		for _, count := range []int{0, 5, -1, 601} {
			got, e := symbol.SequenceOf(c.value, count)
			wantNothing(t, c.value, got, e, c.want)
		}
		n, e := symbol.PeriodOf(c.value)
		wantError(t, c.value, e, c.want)
		if n != 0 {
			t.Error(c.value, n)
		}
		for _, soft := range [][]int{{1}, {8}, make([]int, 601)} {
			got, e := symbol.Randomized(c.value, soft)
			wantNothing(t, c.value, got, e, c.want)
		}
	}
	for _, count := range badNumbers(0, 600) {
		got, e := symbol.SequenceOf(goodRandomizer(), count)
		wantNothing(t, count, got, e, api.ErrRange)
	}
	for _, c := range badSoft() {
		got, e := symbol.Randomized(goodRandomizer(), c.value)
		wantNothing(t, c.value, got, e, c.want)
	}
}

// P4.3: signs by the sequence of example 5.
func TestRandomized(t *testing.T) {
	for _, c := range []struct{ soft, want []int }{
		{[]int{7, 7, 7, 7, 7, 7, 7, 7, 7}, []int{-7, 7, 7, -7, 7, -7, -7, -7, 7}},
		{[]int{-1, -2, 0, 0, 5}, []int{1, -2, 0, 0, 5}},
		{nil, nil},
	} {
		got, e := symbol.Randomized(goodRandomizer(), c.soft)
		wantSlice(t, c.soft, got, e, c.want)
	}
}

// P4.3: randomized symbols by the definition. P4.8: twice gives the same ones.
func TestRandomizedTwice(t *testing.T) {
	r := rand.New(rand.NewSource(8))
	for range 300 {
		randomizer, soft := randomRandomizer(r), numbers(r, r.Intn(601), -7, 7)
		before := slices.Clone(soft)
		want := slices.Clone(soft)
		for i, bit := range sequenceByDefinition(randomizer, len(soft)) {
			if bit == 1 {
				want[i] = -want[i]
			}
		}
		once, e := symbol.Randomized(randomizer, soft)
		wantSlice(t, randomizer, once, e, want)
		twice, e := symbol.Randomized(randomizer, once)
		wantSlice(t, randomizer, twice, e, before)
		clear(once)
		wantSame(t, "the argument", soft, before)
	}
}
