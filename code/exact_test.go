package code_test

import (
	"math"
	"math/rand"
	"slices"
	"testing"

	"cassegrain/api"
	"cassegrain/code"
)

// The tests compare the package with the definitions of the chapter, which this file computes slowly, in whole numbers.

// wantError reports an error that differs from the wanted one.
func wantError(t *testing.T, what any, got, want api.Errno) {
	t.Helper()
	if got != want {
		t.Errorf("%v: error %d, want %d", what, got, want)
	}
}

// wantSame reports a slice that differs from the wanted one; a nil slice is an empty one.
func wantSame(t *testing.T, what any, got, want []int) {
	t.Helper()
	if !slices.Equal(got, want) {
		t.Errorf("%v: %v, want %v", what, got, want)
	}
}

// wantSlice reports a slice or an error that differs from the wanted one.
func wantSlice(t *testing.T, what any, got []int, e api.Errno, want []int) {
	t.Helper()
	wantError(t, what, e, api.OK)
	wantSame(t, what, got, want)
}

// wantBoth reports a slice, a number or an error that differs from the wanted one.
func wantBoth(t *testing.T, what any, got []int, n int, e api.Errno, want []int, number int) {
	t.Helper()
	wantSlice(t, what, got, e, want)
	if n != number {
		t.Errorf("%v: %d, want %d", what, n, number)
	}
}

// wantNumber reports a number or an error that differs from the wanted one.
func wantNumber(t *testing.T, what any, n int, e api.Errno, want int) {
	t.Helper()
	wantBoth(t, what, nil, n, e, nil, want)
}

// wantNothing reports an error that differs from the wanted one, and any result beside it.
func wantNothing(t *testing.T, what any, got []int, n int, e, want api.Errno) {
	t.Helper()
	wantError(t, what, e, want)
	if len(got) != 0 || n != 0 {
		t.Errorf("%v: %v, %d beside an error", what, got, n)
	}
}

// between returns a random number from lo to hi.
func between(r *rand.Rand, lo, hi int) int {
	return lo + r.Intn(hi-lo+1)
}

// numbers returns random numbers from lo to hi.
func numbers(r *rand.Rand, count, lo, hi int) []int {
	l := make([]int, count)
	for i := range l {
		l[i] = between(r, lo, hi)
	}
	return l
}

// somePositions returns a random set of positions below n.
func somePositions(r *rand.Rand, count, n int) []int {
	l := r.Perm(n)[:count]
	slices.Sort(l)
	return l
}

// digits returns the digits of a number with this base, as many as wanted, the highest one first. Ascending numbers have lexicographically ascending digits.
func digits(n, base, count int) []int {
	l := make([]int, count)
	for i := count - 1; i >= 0; i-- {
		l[i] = n % base
		n /= base
	}
	return l
}

// changes returns in how many positions two slices differ.
func changes(a, b []int) int {
	n := 0
	for i := range a {
		if a[i] != b[i] {
			n++
		}
	}
	return n
}

func total(l []int) int {
	n := 0
	for _, x := range l {
		n += x
	}
	return n
}

// convolution returns a convolutional code.
func convolution(memory, first, second int) api.CodeConvolution {
	return api.CodeConvolution{Memory: memory, Generators: [2]int{first, second}}
}

// goodCode is the convolutional code of the chapter's examples.
func goodCode() api.CodeConvolution {
	return convolution(2, 7, 5)
}

// allCodes returns all valid convolutional codes.
func allCodes() []api.CodeConvolution {
	var l []api.CodeConvolution
	for memory := 1; memory <= 3; memory++ {
		for first := 1; first < 2<<memory; first++ {
			for second := 1; second < 2<<memory; second++ {
				l = append(l, convolution(memory, first, second))
			}
		}
	}
	return l
}

func randomCode(r *rand.Rand) api.CodeConvolution {
	memory := between(r, 1, 3)
	most := 2<<memory - 1
	return convolution(memory, between(r, 1, most), between(r, 1, most))
}

// symbolsByDefinition encodes bits with a register of bits, the latest one first.
func symbolsByDefinition(c api.CodeConvolution, bits []int) []int {
	var symbols []int
	register := make([]int, c.Memory+1)
	for _, bit := range append(slices.Clone(bits), make([]int, c.Memory)...) {
		register = append([]int{bit}, register[:c.Memory]...)
		for _, generator := range c.Generators {
			sum := 0
			for i, mask := range digits(generator, 2, c.Memory+1) {
				sum += mask * register[i]
			}
			symbols = append(symbols, sum%2)
		}
	}
	return symbols
}

func metricByDefinition(c api.CodeConvolution, bits, soft []int) int {
	sum := 0
	for i, symbol := range symbolsByDefinition(c, bits) {
		if symbol == 0 {
			sum += soft[i]
		} else {
			sum -= soft[i]
		}
	}
	return sum
}

// bestByDefinition tries all bits.
func bestByDefinition(c api.CodeConvolution, soft []int) ([]int, int) {
	count := len(soft)/2 - c.Memory
	var best []int
	most := math.MinInt
	for n := range 1 << count {
		bits := digits(n, 2, count)
		if metric := metricByDefinition(c, bits, soft); metric > most {
			best, most = bits, metric
		}
	}
	return best, most
}

// freeByDefinition tries all ways on which no state is visited twice, and more.
func freeByDefinition(c api.CodeConvolution) int {
	least := math.MaxInt
	for n := range 1 << 8 {
		least = min(least, total(symbolsByDefinition(c, append([]int{1}, digits(n, 2, 8)...))))
	}
	return least
}

// clearly returns the soft symbols of a size that stand for symbols.
func clearly(symbols []int, size int) []int {
	l := make([]int, len(symbols))
	for i, symbol := range symbols {
		l[i] = size - 2*size*symbol
	}
	return l
}

// disturb inverts so many symbols.
func disturb(r *rand.Rand, soft []int, count int) {
	for _, i := range somePositions(r, count, len(soft)) {
		soft[i] = -soft[i]
	}
}

// potentialsByDefinition says whether numbers of the right shape are potentials.
func potentialsByDefinition(c api.CodeConvolution, soft []int, p [][]int) bool {
	states := 1 << c.Memory
	for step := range len(soft) / 2 {
		for state := range states {
			for bit := range 2 {
				if bit == 1 && step >= len(soft)/2-c.Memory {
					continue
				}
				register := append([]int{bit}, digits(state, 2, c.Memory)...)
				gain := 0
				for i, generator := range c.Generators {
					sum := 0
					for k, mask := range digits(generator, 2, c.Memory+1) {
						sum += mask * register[k]
					}
					gain += soft[2*step+i] * (1 - sum%2*2)
				}
				next := 0
				for _, b := range register[:c.Memory] {
					next = 2*next + b
				}
				if p[step][state]+gain > p[step+1][next] {
					return false
				}
			}
		}
	}
	return true
}

// productByDefinition multiplies polynomials, and divides by x^4 + x + 1.
func productByDefinition(a, b int) int {
	var polynomial [7]int
	for i := range 4 {
		for j := range 4 {
			polynomial[i+j] += (a >> i & 1) * (b >> j & 1)
		}
	}
	for i := 6; i >= 4; i-- {
		polynomial[i-3] += polynomial[i]
		polynomial[i-4] += polynomial[i]
		polynomial[i] = 0
	}
	n := 0
	for i := range 4 {
		n += polynomial[i] % 2 << i
	}
	return n
}

// powerByDefinition returns A to a power.
func powerByDefinition(exponent int) int {
	n := 1
	for range exponent {
		n = productByDefinition(n, 2)
	}
	return n
}

func syndromesByDefinition(half int, word []int) []int {
	var l []int
	for j := 1; j <= 2*half; j++ {
		sum := 0
		for i, element := range word {
			sum ^= productByDefinition(element, powerByDefinition(j*(14-i)))
		}
		l = append(l, sum)
	}
	return l
}

// randomWord returns a word of the code.
func randomWord(t *testing.T, r *rand.Rand, half int) []int {
	t.Helper()
	word, e := code.EncodeBlock(half, numbers(r, 15-2*half, 0, 15))
	wantError(t, half, e, api.OK)
	return word
}

// damage changes the elements at these positions.
func damage(r *rand.Rand, word, positions []int) []int {
	word = slices.Clone(word)
	for _, i := range positions {
		word[i] ^= between(r, 1, 15)
	}
	return word
}

// columnsByDefinition writes rows and reads columns.
func columnsByDefinition(l []int, rows int) []int {
	var table [][]int
	for i := range rows {
		length := len(l) / rows
		table = append(table, l[i*length:(i+1)*length])
	}
	var out []int
	for column := range len(table[0]) {
		for _, row := range table {
			out = append(out, row[column])
		}
	}
	return out
}

// unsatisfiedByDefinition returns the checks that a word does not satisfy.
func unsatisfiedByDefinition(c api.CodeParity, word []int) []int {
	var l []int
	for i, positions := range c.Checks {
		sum := 0
		for _, position := range positions {
			sum += word[position]
		}
		if sum%2 != 0 {
			l = append(l, i)
		}
	}
	return l
}

func flippedByDefinition(c api.CodeParity, word []int) []int {
	wrong := unsatisfiedByDefinition(c, word)
	after := slices.Clone(word)
	for position := range word {
		not, all := 0, 0
		for i, positions := range c.Checks {
			if slices.Contains(positions, position) {
				all++
				if slices.Contains(wrong, i) {
					not++
				}
			}
		}
		if not > all-not {
			after[position] = 1 - after[position]
		}
	}
	return after
}

// codeWordsByDefinition returns all words of a parity-check code.
func codeWordsByDefinition(c api.CodeParity) [][]int {
	var l [][]int
	for n := range 1 << c.Length {
		if word := digits(n, 2, c.Length); len(unsatisfiedByDefinition(c, word)) == 0 {
			l = append(l, word)
		}
	}
	return l
}

// nearestByDefinition returns the first of the nearest words.
func nearestByDefinition(words [][]int, word []int) ([]int, int) {
	var nearest []int
	least := math.MaxInt
	for _, w := range words {
		if n := changes(w, word); n < least {
			nearest, least = w, n
		}
	}
	return nearest, least
}

// weightByDefinition returns the minimum number of ones, or 0 if no word has a one.
func weightByDefinition(words [][]int) int {
	least := 0
	for _, w := range words {
		if n := total(w); n > 0 && (least == 0 || n < least) {
			least = n
		}
	}
	return least
}

// randomParity returns a valid code of at most this length.
func randomParity(r *rand.Rand, longest int) api.CodeParity {
	c := api.CodeParity{Length: between(r, 1, longest)}
	for range r.Intn(min(16, c.Length) + 1) {
		most := min(c.Length, between(r, 1, 6))
		c.Checks = append(c.Checks, somePositions(r, between(r, 1, most), c.Length))
	}
	return c
}

// goodParity is the parity-check code of the chapter's example 7.
func goodParity() api.CodeParity {
	return api.CodeParity{Length: 3, Checks: [][]int{{0, 1}, {1, 2}}}
}

// badNumbers returns numbers that are not from lo to hi.
func badNumbers(lo, hi int) []int {
	return []int{lo - 1, hi + 1, math.MinInt, math.MaxInt}
}

// A wrong argument, and its error.
type wrong[T any] struct {
	value T
	want  api.Errno
}

// badItems returns slices of a length with an item that is not from lo to hi, alone, at the beginning or at the end.
func badItems(length, lo, hi int) []wrong[[]int] {
	var l []wrong[[]int]
	for _, n := range badNumbers(lo, hi) {
		for _, at := range []int{0, length / 2, length - 1} {
			items := make([]int, length)
			items[at] = n
			l = append(l, wrong[[]int]{items, api.ErrRange})
		}
	}
	return l
}

// withItem returns zeros, one of which is another number.
func withItem(length, n int) []int {
	l := make([]int, length)
	l[length-1] = n
	return l
}

// badCodes returns convolutional codes that are not valid.
func badCodes() []wrong[api.CodeConvolution] {
	var l []wrong[api.CodeConvolution]
	for _, memory := range append(badNumbers(1, 3), -2, 62, 63, 64) {
		l = append(l, wrong[api.CodeConvolution]{convolution(memory, 1, 1), api.ErrRange})
	}
	for memory := 1; memory <= 3; memory++ {
		for _, n := range badNumbers(1, 2<<memory-1) {
			l = append(l, wrong[api.CodeConvolution]{convolution(memory, n, 1), api.ErrRange})
			l = append(l, wrong[api.CodeConvolution]{convolution(memory, 1, n), api.ErrRange})
		}
	}
	return l
}

// badBits returns bits that are not valid.
func badBits() []wrong[[]int] {
	return append(badItems(3, 0, 1),
		wrong[[]int]{make([]int, 301), api.ErrLarge},
		wrong[[]int]{withItem(301, 2), api.ErrLarge}, // before the range
		wrong[[]int]{withItem(300, 2), api.ErrRange},
	)
}

// badSoft returns soft symbols that are not valid for a code.
func badSoft(c api.CodeConvolution) []wrong[[]int] {
	l := badItems(2*c.Memory+6, -7, 7)
	add := func(soft []int, want api.Errno) { l = append(l, wrong[[]int]{soft, want}) }
	for length := range 2 * c.Memory {
		add(make([]int, length), api.ErrShape)
	}
	most := 2 * (300 + c.Memory)
	add(make([]int, 2*c.Memory+1), api.ErrShape)
	add(withItem(2*c.Memory+1, 8), api.ErrShape) // before the range
	add(make([]int, most+1), api.ErrShape)       // before the size
	add(make([]int, most+2), api.ErrLarge)
	add(withItem(most+2, 8), api.ErrLarge) // before the range
	add(withItem(most, -8), api.ErrRange)
	return l
}

// badWords returns words of elements that are not valid.
func badWords() []wrong[[]int] {
	return append(badItems(15, 0, 15),
		wrong[[]int]{nil, api.ErrShape},
		wrong[[]int]{make([]int, 14), api.ErrShape},
		wrong[[]int]{make([]int, 16), api.ErrShape},
		wrong[[]int]{withItem(14, 16), api.ErrShape}, // before the range
		wrong[[]int]{withItem(16, -1), api.ErrShape},
	)
}

// A wrong parity-check code, the index that is named, and the error.
type wrongParity struct {
	value api.CodeParity
	index int
	want  api.Errno
}

// badParities returns parity-check codes that are not valid.
func badParities() []wrongParity {
	var l []wrongParity
	add := func(index int, want api.Errno, length int, checks ...[]int) {
		l = append(l, wrongParity{api.CodeParity{Length: length, Checks: checks}, index, want})
	}
	many := slices.Repeat([][]int{{0}}, 17)
	for _, n := range append(badNumbers(1, 24), 63, 64) {
		add(0, api.ErrRange, n)
		add(0, api.ErrRange, n, many...) // before the number of checks
		add(0, api.ErrRange, n, nil)
	}
	add(0, api.ErrLarge, 3, many...)
	add(0, api.ErrLarge, 3, slices.Repeat([][]int{nil}, 17)...) // before the checks
	add(15, api.ErrShape, 3, append(slices.Clone(many[:15]), nil)...)
	add(0, api.ErrShape, 3, nil)
	add(1, api.ErrShape, 3, []int{0}, []int{}, []int{3})
	add(0, api.ErrMissing, 3, []int{3})
	add(0, api.ErrMissing, 3, []int{-1, 0})
	add(2, api.ErrMissing, 3, []int{0}, []int{2}, []int{0, 3}, nil)
	add(1, api.ErrMissing, 24, []int{23}, []int{24})
	add(0, api.ErrMissing, 3, []int{0, math.MaxInt})
	add(0, api.ErrMissing, 3, []int{1, math.MinInt}) // before the order
	add(0, api.ErrMissing, 3, []int{3, 1, 1})
	add(0, api.ErrOrder, 3, []int{1, 1})
	add(1, api.ErrOrder, 3, []int{0, 1, 2}, []int{0, 2, 1})
	add(0, api.ErrOrder, 3, []int{1, 0, 3}) // position by position
	add(1, api.ErrOrder, 3, []int{0}, []int{1, 0}, nil)
	return l
}

// badParityWords returns words that are not valid for a code of the length 3.
func badParityWords() []wrong[[]int] {
	return append(badItems(3, 0, 1),
		wrong[[]int]{nil, api.ErrShape},
		wrong[[]int]{make([]int, 2), api.ErrShape},
		wrong[[]int]{make([]int, 4), api.ErrShape},
		wrong[[]int]{withItem(2, 2), api.ErrShape}, // before the range
		wrong[[]int]{withItem(4, 2), api.ErrShape},
	)
}
