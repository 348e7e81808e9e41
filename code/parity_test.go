package code_test

import (
	"math/rand"
	"slices"
	"testing"

	"cassegrain/api"
	"cassegrain/code"
)

// P5.5: valid codes, up to the limits.
func TestCheckParity(t *testing.T) {
	all := make([]int, 24)
	for i := range all {
		all[i] = i
	}
	for _, c := range []api.CodeParity{
		goodParity(),
		{Length: 1},
		{Length: 24},
		{Length: 1, Checks: [][]int{{0}, {0}}},
		{Length: 24, Checks: slices.Repeat([][]int{all}, 16)},
	} {
		i, e := code.CheckParity(c)
		wantNumber(t, c, i, e, 0)
	}
	for _, c := range badParities() {
		i, e := code.CheckParity(c.value)
		wantError(t, c, e, c.want)
		if i != c.index {
			t.Error(c, i)
		}
	}
}

// P5.5: examples 7 and 8, and the edge cases.
func TestParityByHand(t *testing.T) {
	got, e := code.Unsatisfied(goodParity(), []int{1, 0, 0})
	wantSlice(t, "example 7", got, e, []int{0})
	got, e = code.Flipped(goodParity(), []int{1, 0, 0})
	wantSlice(t, "example 7", got, e, []int{0, 0, 0})
	got, n, e := code.DecodeParity(goodParity(), []int{1, 0, 0}, 30)
	wantBoth(t, "example 7", got, n, e, []int{0, 0, 0}, 1)
	got, n, e = code.DecodeParity(goodParity(), []int{1, 0, 0}, 1)
	wantBoth(t, "the last round", got, n, e, []int{0, 0, 0}, 1)
	got, n, e = code.DecodeParity(goodParity(), []int{1, 0, 0}, 0)
	wantNothing(t, "too few rounds", got, n, e, api.ErrLost)
	got, n, e = code.DecodeParity(goodParity(), []int{1, 1, 1}, 0)
	wantBoth(t, "no rounds", got, n, e, []int{1, 1, 1}, 0)
	n, e = code.MinimumWeight(goodParity())
	wantNumber(t, "example 8", n, e, 3)
	got, n, e = code.Nearest(goodParity(), []int{1, 1, 0})
	wantBoth(t, "example 8", got, n, e, []int{1, 1, 1}, 1)

	alternating := api.CodeParity{Length: 3, Checks: [][]int{{0, 1}}} // both bits are inverted, the bit 2 is in no check
	for _, last := range []int{0, 1} {
		got, e = code.Flipped(alternating, []int{1, 0, last})
		wantSlice(t, "alternating", got, e, []int{0, 1, last})
		got, n, e = code.DecodeParity(alternating, []int{1, 0, last}, 30)
		wantNothing(t, "alternating", got, n, e, api.ErrLost)
	}
	got, n, e = code.Nearest(alternating, []int{1, 0, 1}) // 0 0 1 comes before 1 1 1
	wantBoth(t, "the first one", got, n, e, []int{0, 0, 1}, 1)
}

// P5.5: codes without checks, and with no word that has a one.
func TestParityWithout(t *testing.T) {
	for _, length := range []int{1, 3, 14, 15, 24} {
		c := api.CodeParity{Length: length}
		word := withItem(length, 1)
		got, e := code.Unsatisfied(c, word)
		wantSlice(t, length, got, e, nil)
		got, e = code.Flipped(c, word)
		wantSlice(t, length, got, e, word)
		got, n, e := code.DecodeParity(c, word, 0)
		wantBoth(t, length, got, n, e, word, 0)
		if length > 14 {
			continue
		}
		n, e = code.MinimumWeight(c)
		wantNumber(t, length, n, e, 1)
		got, n, e = code.Nearest(c, word)
		wantBoth(t, length, got, n, e, word, 0)
	}
	zero := api.CodeParity{Length: 2, Checks: [][]int{{0}, {0, 1}}}
	n, e := code.MinimumWeight(zero)
	wantNothing(t, zero, nil, n, e, api.ErrNone)
	got, n, e := code.Nearest(zero, []int{1, 1})
	wantBoth(t, zero, got, n, e, []int{0, 0}, 2)
	long := api.CodeParity{Length: 14, Checks: [][]int{{0, 1, 2, 3, 4, 5, 6, 7, 8, 9, 10, 11, 12, 13}}}
	n, e = code.MinimumWeight(long)
	wantNumber(t, long, n, e, 2)
}

// P5.5: rounds by the definition, for codes of all lengths. P5.12: words of the code are stable, and DecodeParity returns one.
func TestRoundsByDefinition(t *testing.T) {
	r := rand.New(rand.NewSource(15))
	for range 3000 {
		c := randomParity(r, 24)
		word, rounds := numbers(r, c.Length, 0, 1), between(r, 0, 30)
		before := slices.Clone(word)
		got, e := code.Unsatisfied(c, word)
		wantSlice(t, c, got, e, unsatisfiedByDefinition(c, word))
		stable := len(got) == 0
		after, e := code.Flipped(c, word)
		wantSlice(t, c, after, e, flippedByDefinition(c, word))
		if stable {
			wantSame(t, c, after, word)
		}
		clear(after)
		wantSame(t, "the word", word, before)
		wantDecoded(t, c, word, rounds)
		wantSame(t, "the word", word, before)
	}
}

// wantDecoded reports a wrong result of DecodeParity.
func wantDecoded(t *testing.T, c api.CodeParity, word []int, rounds int) {
	t.Helper()
	got, n, e := code.DecodeParity(c, word, rounds)
	for round := 0; round <= rounds; round++ {
		if len(unsatisfiedByDefinition(c, word)) == 0 {
			wantBoth(t, c, got, n, e, word, round)
			return
		}
		word = flippedByDefinition(c, word)
	}
	wantNothing(t, c, got, n, e, api.ErrLost)
}

// regular returns a code of rows and columns, with an even number of ones in each, whose rounds need some steps.
func regular(rows, columns int) api.CodeParity {
	c := api.CodeParity{Length: rows * columns}
	for row := range rows {
		var positions []int
		for column := range columns {
			positions = append(positions, row*columns+column)
		}
		c.Checks = append(c.Checks, positions)
	}
	for column := range columns {
		var positions []int
		for row := range rows {
			positions = append(positions, row*columns+column)
		}
		c.Checks = append(c.Checks, positions)
	}
	return c
}

// P5.5: codes of rows and columns, and chains of pairs whose ends are corrected round by round.
func TestRoundsOfRows(t *testing.T) {
	r := rand.New(rand.NewSource(16))
	chain := api.CodeParity{Length: 16}
	for i := range 15 {
		chain.Checks = append(chain.Checks, []int{i, i + 1})
	}
	for range 300 {
		for _, c := range []api.CodeParity{regular(4, 6), regular(3, 8), regular(2, 2), chain} {
			word := make([]int, c.Length)
			for _, i := range somePositions(r, r.Intn(4), c.Length) {
				word[i] = 1
			}
			wantDecoded(t, c, word, between(r, 0, 30))
		}
	}
	for ones := 1; ones < 8; ones++ { // the ones at the beginning are inverted one by one
		word := append(slices.Repeat([]int{1}, ones), make([]int, 16-ones)...)
		wantDecoded(t, chain, word, 30)
	}
}

// P5.5: words that are searched, by the definition. P5.12: Nearest returns a word of the code, and no other one is nearer; fewer than half as many inverted bits as the minimum weight are corrected.
func TestSearchByDefinition(t *testing.T) {
	r := rand.New(rand.NewSource(17))
	for i := range 300 {
		longest := 9
		if i%50 == 0 {
			longest = 14
		}
		c := randomParity(r, longest)
		words := codeWordsByDefinition(c)
		word := numbers(r, c.Length, 0, 1)
		before := slices.Clone(word)
		nearest, distance := nearestByDefinition(words, word)
		got, n, e := code.Nearest(c, word)
		wantBoth(t, c, got, n, e, nearest, distance)
		clear(got)
		wantSame(t, "the word", word, before)
		weight, e := code.MinimumWeight(c)
		want := weightByDefinition(words)
		if want == 0 {
			wantNothing(t, c, nil, weight, e, api.ErrNone)
			continue
		}
		wantNumber(t, c, weight, e, want)
		sent := words[r.Intn(len(words))]
		given := slices.Clone(sent)
		count := (weight - 1) / 2
		for _, i := range somePositions(r, count, c.Length) {
			given[i] = 1 - given[i]
		}
		got, n, e = code.Nearest(c, given)
		wantBoth(t, c, got, n, e, sent, count)
	}
}

// P5.5: the errors of the code, the word, the rounds, and a code that is searched, in this order.
func TestParityErrors(t *testing.T) {
	fails := func(c api.CodeParity, word []int, want api.Errno) {
		t.Helper()
		got, e := code.Unsatisfied(c, word)
		wantNothing(t, c, got, 0, e, want)
		got, e = code.Flipped(c, word)
		wantNothing(t, c, got, 0, e, want)
		for _, rounds := range []int{0, 30, 31, -1} {
			got, n, e := code.DecodeParity(c, word, rounds)
			wantNothing(t, c, got, n, e, want)
		}
		got, n, e := code.Nearest(c, word)
		wantNothing(t, c, got, n, e, want)
	}
	for _, c := range badParities() {
		for _, word := range [][]int{nil, {0, 0, 0}, {2}, make([]int, c.value.Length&31)} {
			fails(c.value, word, c.want)
		}
		n, e := code.MinimumWeight(c.value)
		wantNothing(t, c, nil, n, e, c.want)
	}
	for _, word := range badParityWords() {
		fails(goodParity(), word.value, word.want)
	}
	for _, rounds := range badNumbers(0, 30) {
		for _, word := range [][]int{{0, 0, 0}, {1, 0, 0}} {
			got, n, e := code.DecodeParity(goodParity(), word, rounds)
			wantNothing(t, rounds, got, n, e, api.ErrRange)
		}
	}
	for _, length := range []int{15, 24} {
		c := api.CodeParity{Length: length}
		got, n, e := code.Nearest(c, make([]int, length))
		wantNothing(t, c, got, n, e, api.ErrLarge)
		got, n, e = code.Nearest(c, make([]int, length+1)) // the word comes first
		wantNothing(t, c, got, n, e, api.ErrShape)
		got, n, e = code.Nearest(c, withItem(length, 2))
		wantNothing(t, c, got, n, e, api.ErrRange)
		n, e = code.MinimumWeight(c)
		wantNothing(t, c, nil, n, e, api.ErrLarge)
		c.Checks = [][]int{nil} // and so does the code
		n, e = code.MinimumWeight(c)
		wantNothing(t, c, nil, n, e, api.ErrShape)
	}
}
