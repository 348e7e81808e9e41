package code

import (
	"math/bits"
	"slices"

	"cassegrain/api"
	"cassegrain/check"
)

// parity is a parity-check code whose words are the numbers that their bits represent, so that the order of numbers is the lexicographic one of words.
type parity struct {
	api.CodeParity
	masks []int // of the bits of each check
}

// newParity returns a valid code.
func newParity(c api.CodeParity) parity {
	p := parity{CodeParity: c, masks: make([]int, len(c.Checks))}
	for i, positions := range c.Checks {
		for _, position := range positions {
			p.masks[i] |= 1 << (c.Length - 1 - position)
		}
	}
	return p
}

// CheckParity checks a parity-check code, and returns the index of a check that is wrong.
func CheckParity(c api.CodeParity) (int, api.Errno) {
	e := check.First(
		check.Range(c.Length, 1, api.MaxCodeLength),
		check.Require(api.ErrLarge, func() bool { return len(c.Checks) <= api.MaxCodeChecks }),
	)
	if e != api.OK {
		return 0, e
	}
	for i, positions := range c.Checks {
		e := check.First(
			check.Require(api.ErrShape, func() bool { return len(positions) > 0 }),
			positionsCheck(positions, c.Length),
		)
		if e != api.OK {
			return i, e
		}
	}
	return 0, api.OK
}

// parityCheck is the check of a parity-check code, without its index.
func parityCheck(c api.CodeParity) func() api.Errno {
	return func() api.Errno {
		_, e := CheckParity(c)
		return e
	}
}

// parityWordCheck is the check of a parity-check code and a word.
func parityWordCheck(c api.CodeParity, word []int) func() api.Errno {
	return func() api.Errno {
		return check.First(
			parityCheck(c),
			check.Require(api.ErrShape, func() bool { return len(word) == c.Length }),
			check.Each(word, check.Numbers(0, 1)),
		)
	}
}

// searchCheck is the check that a code is small enough to be searched.
func searchCheck(c api.CodeParity) func() api.Errno {
	return check.Require(api.ErrLarge, func() bool { return c.Length <= api.MaxCodeSearch })
}

// odd says whether the sum of the bits of a word in a mask is odd.
func odd(mask, word int) bool {
	return bits.OnesCount(uint(mask&word))%2 == 1
}

// unsatisfied returns the indexes of the checks that a word does not satisfy.
func (p parity) unsatisfied(word int) []int {
	var indexes []int
	for i, mask := range p.masks {
		if odd(mask, word) {
			indexes = append(indexes, i)
		}
	}
	return indexes
}

// contains says whether a word is a word of the code.
func (p parity) contains(word int) bool {
	return !slices.ContainsFunc(p.masks, func(mask int) bool { return odd(mask, word) })
}

// suspicion returns how many more of the checks of a bit a word does not satisfy than it satisfies.
func (p parity) suspicion(word, bit int) int {
	n := 0
	for _, mask := range p.masks {
		switch {
		case mask&bit == 0:
		case odd(mask, word):
			n++
		default:
			n--
		}
	}
	return n
}

// flipped returns a word after a round.
func (p parity) flipped(word int) int {
	inverted := 0
	for i := range p.Length {
		if p.suspicion(word, 1<<i) > 0 {
			inverted |= 1 << i
		}
	}
	return word ^ inverted
}

// words yields all words of the code, in their order.
func (p parity) words(yield func(int) bool) {
	for word := range 1 << p.Length {
		if p.contains(word) && !yield(word) {
			return
		}
	}
}

// Unsatisfied returns the indexes of the checks that a word does not satisfy.
func Unsatisfied(c api.CodeParity, word []int) ([]int, api.Errno) {
	if e := parityWordCheck(c, word)(); e != api.OK {
		return nil, e
	}
	return newParity(c).unsatisfied(packed(word)), api.OK
}

// Flipped returns a word after a round.
func Flipped(c api.CodeParity, word []int) ([]int, api.Errno) {
	if e := parityWordCheck(c, word)(); e != api.OK {
		return nil, e
	}
	return unpacked(newParity(c).flipped(packed(word)), c.Length), api.OK
}

// DecodeParity returns the first word of the code that rounds reach from a word, and after how many rounds.
func DecodeParity(c api.CodeParity, word []int, rounds int) ([]int, int, api.Errno) {
	e := check.First(parityWordCheck(c, word), check.Range(rounds, 0, api.MaxCodeRounds))
	if e != api.OK {
		return nil, 0, e
	}
	p, w := newParity(c), packed(word)
	for round := range rounds + 1 {
		if p.contains(w) {
			return unpacked(w, c.Length), round, api.OK
		}
		w = p.flipped(w)
	}
	return nil, 0, api.ErrLost
}

// Nearest returns the first word of the code that differs from a word in the fewest positions, and in how many. There is one, as no bits 1 are a word of every code.
func Nearest(c api.CodeParity, word []int) ([]int, int, api.Errno) {
	if e := check.First(parityWordCheck(c, word), searchCheck(c)); e != api.OK {
		return nil, 0, e
	}
	given := packed(word)
	nearest, least := 0, c.Length+1
	for w := range newParity(c).words {
		if distance := bits.OnesCount(uint(w ^ given)); distance < least {
			nearest, least = w, distance
		}
	}
	return unpacked(nearest, c.Length), least, api.OK
}

// MinimumWeight returns the minimum number of ones in a word of the code that has a one.
func MinimumWeight(c api.CodeParity) (int, api.Errno) {
	if e := check.First(parityCheck(c), searchCheck(c)); e != api.OK {
		return 0, e
	}
	least := c.Length + 1
	for w := range newParity(c).words {
		if w != 0 {
			least = min(least, bits.OnesCount(uint(w)))
		}
	}
	if least > c.Length {
		return 0, api.ErrNone
	}
	return least, api.OK
}
