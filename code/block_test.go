package code_test

import (
	"math/rand"
	"slices"
	"testing"

	"cassegrain/api"
	"cassegrain/code"
)

// P5.3: example 4, and all products by the definition.
func TestProduct(t *testing.T) {
	for _, c := range [][3]int{{8, 2, 3}, {7, 11, 4}, {0, 9, 0}, {1, 9, 9}, {15, 15, 10}} {
		n, e := code.Product(c[0], c[1])
		wantNumber(t, c, n, e, c[2])
	}
	for a := range 16 {
		for b := range 16 {
			n, e := code.Product(a, b)
			wantNumber(t, []int{a, b}, n, e, productByDefinition(a, b))
		}
	}
	for _, bad := range badNumbers(0, 15) {
		for _, pair := range [][2]int{{bad, 1}, {1, bad}, {bad, bad}} {
			n, e := code.Product(pair[0], pair[1])
			wantNothing(t, pair, nil, n, e, api.ErrRange)
		}
	}
}

// P5.3: example 5, and syndromes by the definition.
func TestSyndromes(t *testing.T) {
	example := append(make([]int, 12), 1, 6, 8)
	got, e := code.Syndromes(1, example)
	wantSlice(t, example, got, e, []int{0, 0})
	r := rand.New(rand.NewSource(7))
	for range 300 {
		half, word := between(r, 1, 3), numbers(r, 15, 0, 15)
		before := slices.Clone(word)
		got, e := code.Syndromes(half, word)
		wantSlice(t, word, got, e, syndromesByDefinition(half, word))
		clear(got)
		wantSame(t, "the word", word, before)
	}
	for half := 1; half <= 3; half++ {
		got, e := code.Syndromes(half, make([]int, 15))
		wantSlice(t, half, got, e, make([]int, 2*half))
	}
}

// P5.3: example 5, and words that begin with their data and whose syndromes are 0.
func TestEncodeBlock(t *testing.T) {
	example := append(make([]int, 12), 1)
	got, e := code.EncodeBlock(1, example)
	wantSlice(t, example, got, e, append(slices.Clone(example), 6, 8))
	r := rand.New(rand.NewSource(8))
	for range 300 {
		half := between(r, 1, 3)
		data := numbers(r, 15-2*half, 0, 15)
		before := slices.Clone(data)
		word, e := code.EncodeBlock(half, data)
		wantError(t, data, e, api.OK)
		if len(word) != 15 {
			t.Fatal(word)
		}
		wantSame(t, half, word[:15-2*half], data)
		wantSame(t, word, syndromesByDefinition(half, word), make([]int, 2*half))
		clear(word)
		wantSame(t, "the data", data, before)
	}
}

// P5.3, P5.10: at most half changed elements are corrected.
func TestDecodeBlock(t *testing.T) {
	r := rand.New(rand.NewSource(9))
	for range 1000 {
		half := between(r, 1, 3)
		word := randomWord(t, r, half)
		count := r.Intn(half + 1)
		given := damage(r, word, somePositions(r, count, 15))
		before := slices.Clone(given)
		got, n, e := code.DecodeBlock(half, given)
		wantBoth(t, given, got, n, e, word, count)
		clear(got)
		wantSame(t, "the word", given, before)
	}
}

// P5.3: all single and, with half from 2 on, all double errors of a word.
func TestDecodeFewErrors(t *testing.T) {
	r := rand.New(rand.NewSource(10))
	for half := 1; half <= 3; half++ {
		word := randomWord(t, r, half)
		for i := range 15 {
			for change := 1; change < 16; change++ {
				given := slices.Clone(word)
				given[i] ^= change
				got, n, e := code.DecodeBlock(half, given)
				wantBoth(t, given, got, n, e, word, 1)
				for k := i + 1; k < 15 && half > 1; k++ {
					twice := damage(r, given, []int{k})
					got, n, e := code.DecodeBlock(half, twice)
					wantBoth(t, twice, got, n, e, word, 2)
				}
			}
		}
	}
}

// packedSyndromes returns syndromes as one number: the exclusive or of two such numbers is that of the sum of words.
func packedSyndromes(half int, word []int) int {
	n := 0
	for _, syndrome := range syndromesByDefinition(half, word) {
		n = n<<4 | syndrome
	}
	return n
}

// errorSums yields the sums of syndromes of all errors in at most so many positions, from the first one on, with the errors.
func errorSums(single [15][16]int, first, most, sum int, errors []int, yield func(int, []int)) {
	yield(sum, errors)
	for i := first; i < 15 && most > 0; i++ {
		for change := 1; change < 16; change++ {
			errors[i] = change
			errorSums(single, i+1, most-1, sum^single[i][change], errors, yield)
		}
		errors[i] = 0
	}
}

// decodedByDefinition tries all errors in at most half positions.
func decodedByDefinition(half int, word []int) ([][]int, []int) {
	var single [15][16]int
	for i := range 15 {
		for change := range 16 {
			l := make([]int, 15)
			l[i] = change
			single[i][change] = packedSyndromes(half, l)
		}
	}
	var words [][]int
	var counts []int
	target := packedSyndromes(half, word)
	errorSums(single, 0, half, 0, make([]int, 15), func(sum int, errors []int) {
		if sum != target {
			return
		}
		right := slices.Clone(word)
		for i, change := range errors {
			right[i] ^= change
		}
		words = append(words, right)
		counts = append(counts, changes(right, word))
	})
	return words, counts
}

// P5.3, P5.10: any words, also those that are too far from each word of the code.
func TestDecodeByDefinition(t *testing.T) {
	r := rand.New(rand.NewSource(11))
	lost, found := 0, 0
	for i := range 90 {
		half := i%3 + 1
		word := numbers(r, 15, 0, 15)
		if i%2 == 0 {
			word = damage(r, randomWord(t, r, half), somePositions(r, half+1, 15))
		}
		words, counts := decodedByDefinition(half, word)
		got, n, e := code.DecodeBlock(half, word)
		switch len(words) {
		case 0:
			lost++
			wantNothing(t, word, got, n, e, api.ErrLost)
		case 1:
			found++
			wantBoth(t, word, got, n, e, words[0], counts[0])
		default:
			t.Error(words)
		}
	}
	if lost < 10 || found < 10 {
		t.Error(lost, found)
	}
}

// P5.3, P5.10: erased elements, however they read. A word that is wrong elsewhere is filled only if the definition says so.
func TestFillErasures(t *testing.T) {
	r := rand.New(rand.NewSource(12))
	for range 2000 {
		half := between(r, 1, 3)
		word := randomWord(t, r, half)
		erased := somePositions(r, r.Intn(2*half+1), 15)
		given := slices.Clone(word)
		for _, i := range erased {
			given[i] = r.Intn(16)
		}
		before, kept := slices.Clone(given), slices.Clone(erased)
		got, e := code.FillErasures(half, given, erased)
		wantSlice(t, given, got, e, word)
		clear(got)
		wantSame(t, "the word", given, before)
		wantSame(t, "the erased positions", erased, kept)
		wantFilled(t, half, damage(r, given, somePositions(r, between(r, 1, 3), 15)), erased)
	}
}

// wantFilled reports a wrong result of FillErasures. With 2 half erasures there always is a word; with fewer of them it is the only one that there can be.
func wantFilled(t *testing.T, half int, given, erased []int) {
	t.Helper()
	more := slices.Clone(erased)
	for i := 0; len(more) < 2*half; i++ {
		if !slices.Contains(erased, i) {
			more = append(more, i)
		}
	}
	slices.Sort(more)
	word, e := code.FillErasures(half, given, more)
	wantError(t, given, e, api.OK)
	wantSame(t, given, syndromesByDefinition(half, word), make([]int, 2*half))
	right := true
	for i := range word {
		if !slices.Contains(more, i) && word[i] != given[i] {
			t.Error(given, more, word)
		}
		right = right && (slices.Contains(erased, i) || word[i] == given[i])
	}
	got, e := code.FillErasures(half, given, erased)
	if right {
		wantSlice(t, given, got, e, word)
	} else {
		wantNothing(t, given, got, 0, e, api.ErrLost)
	}
}

// Edge case: erasing nothing accepts just the words of the code.
func TestNothingErased(t *testing.T) {
	r := rand.New(rand.NewSource(13))
	for half := 1; half <= 3; half++ {
		word := randomWord(t, r, half)
		for _, erased := range [][]int{nil, {}} {
			got, e := code.FillErasures(half, word, erased)
			wantSlice(t, half, got, e, word)
			for i := range 15 {
				got, e := code.FillErasures(half, damage(r, word, []int{i}), erased)
				wantNothing(t, half, got, 0, e, api.ErrLost)
			}
		}
	}
}

// P5.3: the errors of a half, a word, data and erased positions, in this order.
func TestBlockErrors(t *testing.T) {
	fails := func(half int, word []int, want api.Errno) {
		t.Helper()
		got, e := code.Syndromes(half, word)
		wantNothing(t, word, got, 0, e, want)
		got, n, e := code.DecodeBlock(half, word)
		wantNothing(t, word, got, n, e, want)
		for _, erased := range [][]int{nil, {0}, {-1}, make([]int, 7)} {
			got, e := code.FillErasures(half, word, erased)
			wantNothing(t, word, got, 0, e, want)
		}
	}
	encodes := func(half int, data []int, want api.Errno) {
		t.Helper()
		got, e := code.EncodeBlock(half, data)
		wantNothing(t, data, got, 0, e, want)
	}
	for _, half := range badNumbers(1, 3) {
		fails(half, make([]int, 15), api.ErrRange)
		fails(half, nil, api.ErrRange) // before the shape
		encodes(half, make([]int, 15), api.ErrRange)
		encodes(half, make([]int, 13), api.ErrRange)
		encodes(half, nil, api.ErrRange)
	}
	for half := 1; half <= 3; half++ {
		for _, word := range badWords() {
			fails(half, word.value, word.want)
		}
		right := 15 - 2*half
		for _, length := range []int{0, right - 1, right + 1, 15} {
			encodes(half, make([]int, length), api.ErrShape)
		}
		encodes(half, withItem(right+1, 16), api.ErrShape) // before the range
		for _, data := range badItems(right, 0, 15) {
			encodes(half, data.value, data.want)
		}
	}
}

// P5.3: the errors of erased positions.
func TestErasureErrors(t *testing.T) {
	word := append(make([]int, 12), 1, 6, 8)
	for _, c := range []struct {
		half   int
		erased []int
		want   api.Errno
	}{
		{1, []int{0, 1, 2}, api.ErrLarge},
		{2, []int{0, 1, 2, 3, 4}, api.ErrLarge},
		{3, []int{0, 1, 2, 3, 4, 5, 6}, api.ErrLarge},
		{1, []int{-1, 15, 0}, api.ErrLarge}, // before the positions
		{1, []int{15}, api.ErrMissing},
		{1, []int{-1}, api.ErrMissing},
		{1, badNumbers(0, 14)[2:3], api.ErrMissing},
		{1, badNumbers(0, 14)[3:], api.ErrMissing},
		{1, []int{14, -1}, api.ErrMissing}, // before the order
		{1, []int{3, 3}, api.ErrOrder},
		{1, []int{4, 3}, api.ErrOrder},
		{2, []int{4, 3, 15}, api.ErrOrder}, // position by position
		{2, []int{4, 15, 3}, api.ErrMissing},
		{2, []int{0, 1, 2, 2}, api.ErrOrder},
	} {
		for _, w := range [][]int{word, slices.Repeat([]int{9}, 15)} { // before the loss
			got, e := code.FillErasures(c.half, w, c.erased)
			wantNothing(t, c, got, 0, e, c.want)
		}
	}
}
