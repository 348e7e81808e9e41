package code

import (
	"slices"

	"cassegrain/api"
	"cassegrain/check"
)

// word is a word of elements, of the block code or not.
type word [api.CodeSymbols]int

// wordCheck is the check of a word of elements.
func wordCheck(elements []int) func() api.Errno {
	return func() api.Errno {
		return check.First(
			check.Require(api.ErrShape, func() bool { return len(elements) == api.CodeSymbols }),
			elementsCheck(elements),
		)
	}
}

// newWord checks a half and a word.
func newWord(half int, elements []int) (word, api.Errno) {
	if e := check.First(halfCheck(half), wordCheck(elements)); e != api.OK {
		return word{}, e
	}
	return word(elements), api.OK
}

// dataCount returns the number of elements that are the data of a word.
func dataCount(half int) int {
	return api.CodeSymbols - 2*half
}

// locator returns by what the element at a position is multiplied in the syndrome 1; in the syndrome j it is this to the power j.
func locator(position int) int {
	return power(elementA, api.CodeSymbols-1-position)
}

// syndromes returns the syndromes 1 to 2 half.
func (w word) syndromes(half int) []int {
	l := make([]int, 2*half)
	for j := range l {
		root := power(elementA, j+1)
		for _, element := range w {
			l[j] = product(l[j], root) ^ element
		}
	}
	return l
}

// without returns the syndromes without the part that the element at a position has in them: each one but the first, plus the one before times the locator. The parts of other elements remain, times the sum of both locators.
func without(syndromes []int, position int) []int {
	x := locator(position)
	l := make([]int, len(syndromes)-1)
	for j := range l {
		l[j] = syndromes[j+1] ^ product(x, syndromes[j])
	}
	return l
}

// zeros says whether all numbers are 0.
func zeros(l []int) bool {
	return !slices.ContainsFunc(l, func(n int) bool { return n != 0 })
}

// explains says whether the syndromes can be those of a word that differs from a word of the code at these positions at most. There are no more positions than syndromes. What is left without the positions is 0 exactly if the syndromes go on, after the first ones, as those of such a word do.
func explains(positions, syndromes []int) bool {
	for _, position := range positions {
		syndromes = without(syndromes, position)
	}
	return zeros(syndromes)
}

// errorAt returns what has to be added to the element at a position, one of those that explain the syndromes.
func errorAt(position int, positions, syndromes []int) int {
	factor := locator(position)
	for _, other := range positions {
		if other != position {
			syndromes = without(syndromes, other)
			factor = product(factor, locator(position)^locator(other))
		}
	}
	return product(syndromes[0], inverse(factor))
}

// filled returns the word of the code that differs from a word at these positions at most, if there is one. There are at most 2 half positions.
func (w word) filled(half int, positions []int) (word, bool) {
	syndromes := w.syndromes(half)
	if !explains(positions, syndromes) {
		return word{}, false
	}
	for _, position := range positions {
		w[position] ^= errorAt(position, positions, syndromes)
	}
	return w, true
}

// explanation returns positions that explain the syndromes, if there are any: at most so many, and none before the first one. There are more syndromes than that.
func explanation(syndromes []int, first, most int) ([]int, bool) {
	if zeros(syndromes) {
		return nil, true
	}
	if most == 0 {
		return nil, false
	}
	for position := first; position < api.CodeSymbols; position++ {
		if later, ok := explanation(without(syndromes, position), position+1, most-1); ok {
			return append(later, position), true
		}
	}
	return nil, false
}

// corrected returns the word of the code that differs from a word in at most half positions, if there is one, and in how many it differs. As there never are two, it does not matter which positions explain the syndromes, nor that some of them may be right.
func (w word) corrected(half int) (word, int, bool) {
	positions, ok := explanation(w.syndromes(half), 0, half)
	if !ok {
		return word{}, 0, false
	}
	right, _ := w.filled(half, positions)
	count := 0
	for i, element := range right {
		if element != w[i] {
			count++
		}
	}
	return right, count, true
}

// encodedBlock returns the word with these data, of the right number. The elements after them are filled in as if they had been erased, which is always possible.
func encodedBlock(half int, data []int) word {
	var w word
	copy(w[:], data)
	var missing []int
	for position := dataCount(half); position < api.CodeSymbols; position++ {
		missing = append(missing, position)
	}
	w, _ = w.filled(half, missing)
	return w
}

// Syndromes returns the syndromes 1 to 2 half.
func Syndromes(half int, word []int) ([]int, api.Errno) {
	w, e := newWord(half, word)
	if e != api.OK {
		return nil, e
	}
	return w.syndromes(half), api.OK
}

// EncodeBlock returns the word of the block code with these data.
func EncodeBlock(half int, data []int) ([]int, api.Errno) {
	e := check.First(
		halfCheck(half),
		check.Require(api.ErrShape, func() bool { return len(data) == dataCount(half) }),
		elementsCheck(data),
	)
	if e != api.OK {
		return nil, e
	}
	w := encodedBlock(half, data)
	return w[:], api.OK
}

// DecodeBlock returns the word of the code that differs from a word in at most half positions, and in how many it differs.
func DecodeBlock(half int, word []int) ([]int, int, api.Errno) {
	w, e := newWord(half, word)
	if e != api.OK {
		return nil, 0, e
	}
	right, count, ok := w.corrected(half)
	if !ok {
		return nil, 0, api.ErrLost
	}
	return right[:], count, api.OK
}

// FillErasures returns the word of the code that has the elements of a word but at the positions erased.
func FillErasures(half int, word, erased []int) ([]int, api.Errno) {
	w, e := newWord(half, word)
	if e != api.OK {
		return nil, e
	}
	e = check.First(
		check.Require(api.ErrLarge, func() bool { return len(erased) <= 2*half }),
		positionsCheck(erased, api.CodeSymbols),
	)
	if e != api.OK {
		return nil, e
	}
	right, ok := w.filled(half, erased)
	if !ok {
		return nil, api.ErrLost
	}
	return right[:], api.OK
}
