package code_test

import (
	"math/rand"
	"slices"
	"testing"

	"cassegrain/api"
	"cassegrain/code"
)

func link(inner api.CodeConvolution, half, depth int) api.CodeLink {
	return api.CodeLink{Inner: inner, Half: half, Depth: depth}
}

func randomLink(r *rand.Rand) api.CodeLink {
	return link(randomCode(r), between(r, 1, 3), between(r, 1, 4))
}

func randomData(r *rand.Rand, l api.CodeLink) []int {
	return numbers(r, l.Depth*(15-2*l.Half), 0, 15)
}

// wordsOf returns the words of the block code of data, one after the other.
func wordsOf(t *testing.T, l api.CodeLink, data []int) []int {
	t.Helper()
	var words []int
	for len(data) > 0 {
		word, e := code.EncodeBlock(l.Half, data[:15-2*l.Half])
		wantError(t, l, e, api.OK)
		words = append(words, word...)
		data = data[15-2*l.Half:]
	}
	return words
}

// symbolsOf returns the symbols of words, which may have wrong elements.
func symbolsOf(l api.CodeLink, words []int) []int {
	var bits []int
	for _, element := range columnsByDefinition(words, l.Depth) {
		bits = append(bits, digits(element, 2, 4)...)
	}
	return symbolsByDefinition(l.Inner, bits)
}

// P5.6: links within the limits, and the errors of others.
func TestCheckLink(t *testing.T) {
	for half := 1; half <= 3; half++ {
		for depth := 1; depth <= 4; depth++ {
			wantError(t, half, code.CheckLink(link(goodCode(), half, depth)), api.OK)
		}
	}
	for _, l := range badLinks() {
		wantError(t, l, code.CheckLink(l), api.ErrRange)
	}
}

// badLinks returns links that are not valid.
func badLinks() []api.CodeLink {
	var l []api.CodeLink
	for _, c := range badCodes() {
		l = append(l, link(c.value, 1, 1))
	}
	for _, n := range badNumbers(1, 3) {
		l = append(l, link(goodCode(), n, 1))
	}
	for _, n := range badNumbers(1, 4) {
		l = append(l, link(goodCode(), 1, n))
	}
	return l
}

// P5.6: symbols by the definition.
func TestEncodeLink(t *testing.T) {
	r := rand.New(rand.NewSource(18))
	for range 200 {
		l := randomLink(r)
		data := randomData(r, l)
		before := slices.Clone(data)
		got, e := code.EncodeLink(l, data)
		wantSlice(t, l, got, e, symbolsOf(l, wordsOf(t, l, data)))
		wantSame(t, "the data", data, before)
	}
	zero := link(goodCode(), 2, 1)
	got, e := code.EncodeLink(zero, make([]int, 11))
	wantSlice(t, zero, got, e, make([]int, 124))
	example := link(convolution(1, 2, 2), 1, 1) // each bit twice: the word of the chapter's example 5
	got, e = code.EncodeLink(example, append(make([]int, 12), 1))
	wantSlice(t, example, got, e, append(make([]int, 96), 0, 0, 0, 0, 0, 0, 1, 1, 0, 0, 1, 1, 1, 1, 0, 0, 1, 1, 0, 0, 0, 0, 0, 0, 0, 0))
}

// P5.6, P5.13: the data come back, with soft symbols of any size above 0, and with fewer wrong symbols of the same size than half of the free distance.
func TestDecodeLink(t *testing.T) {
	r := rand.New(rand.NewSource(19))
	for range 300 {
		l := randomLink(r)
		data := randomData(r, l)
		symbols, e := code.EncodeLink(l, data)
		wantError(t, l, e, api.OK)
		soft := clearly(symbols, 1)
		for i := range soft {
			soft[i] *= between(r, 1, 7)
		}
		before := slices.Clone(soft)
		got, n, e := code.DecodeLink(l, soft)
		wantBoth(t, l, got, n, e, data, 0)
		wantSame(t, "the soft symbols", soft, before)
		free, e := code.FreeDistance(l.Inner)
		wantError(t, l, e, api.OK)
		soft = clearly(symbols, between(r, 1, 7))
		disturb(r, soft, (free-1)/2)
		got, n, e = code.DecodeLink(l, soft)
		wantBoth(t, l, got, n, e, data, 0)
	}
}

// P5.6: wrong elements are corrected in all words, and counted together; a burst of neighbours is spread over the words; a word with too many of them is lost.
func TestDecodeWrongElements(t *testing.T) {
	r := rand.New(rand.NewSource(20))
	for range 200 {
		l := randomLink(r)
		data := randomData(r, l)
		words := wordsOf(t, l, data)
		var positions []int
		for i := range l.Depth {
			for _, position := range somePositions(r, r.Intn(l.Half+1), 15) {
				positions = append(positions, 15*i+position)
			}
		}
		got, n, e := code.DecodeLink(l, clearly(symbolsOf(l, damage(r, words, positions)), 5))
		wantBoth(t, l, got, n, e, data, len(positions))
		wantBurst(t, r, l, data)
		wantLoss(t, r, l, words)
	}
}

// wantBurst changes as many neighbours as can be corrected.
func wantBurst(t *testing.T, r *rand.Rand, l api.CodeLink, data []int) {
	t.Helper()
	stream := columnsByDefinition(wordsOf(t, l, data), l.Depth)
	count := l.Half * l.Depth
	first := r.Intn(len(stream) - count + 1)
	for i := range count {
		stream[first+i] ^= between(r, 1, 15)
	}
	words, e := code.Deinterleaved(stream, l.Depth)
	wantError(t, l, e, api.OK)
	got, n, e := code.DecodeLink(l, clearly(symbolsOf(l, words), 5))
	wantBoth(t, l, got, n, e, data, count)
}

// wantLoss changes a word until DecodeBlock says that it is lost.
func wantLoss(t *testing.T, r *rand.Rand, l api.CodeLink, words []int) {
	t.Helper()
	at := 15 * r.Intn(l.Depth)
	for range 100 {
		lost := slices.Clone(words)
		copy(lost[at:], numbers(r, 15, 0, 15))
		if _, _, e := code.DecodeBlock(l.Half, lost[at:at+15]); e == api.ErrLost {
			got, n, e := code.DecodeLink(l, clearly(symbolsOf(l, lost), 5))
			wantNothing(t, l, got, n, e, api.ErrLost)
			return
		}
	}
	t.Fatal("no word is lost", l)
}

// P5.6: whatever the soft symbols are, the words are decoded from the best bits.
func TestDecodeNoise(t *testing.T) {
	r := rand.New(rand.NewSource(21))
	lost, found := 0, 0
	for i := range 200 {
		l := link(randomCode(r), between(r, 1, 3), i%2+1)
		symbols, _ := code.EncodeLink(l, randomData(r, l))
		soft := clearly(symbols, 3)
		for i := range soft {
			soft[i] += between(r, -4, 4) * r.Intn(2)
		}
		disturb(r, soft, r.Intn(8))
		want, total, ok := decodedLinkByDefinition(t, l, soft)
		got, n, e := code.DecodeLink(l, soft)
		if !ok {
			lost++
			wantNothing(t, l, got, n, e, api.ErrLost)
			continue
		}
		found++
		wantBoth(t, l, got, n, e, want, total)
	}
	if lost < 20 || found < 20 {
		t.Error(lost, found)
	}
}

// decodedLinkByDefinition decodes step by step.
func decodedLinkByDefinition(t *testing.T, l api.CodeLink, soft []int) ([]int, int, bool) {
	t.Helper()
	bits, _, e := code.BestBits(l.Inner, soft)
	wantError(t, l, e, api.OK)
	var stream, data []int
	for i := 0; i < len(bits); i += 4 {
		stream = append(stream, 8*bits[i]+4*bits[i+1]+2*bits[i+2]+bits[i+3])
	}
	words, e := code.Deinterleaved(stream, l.Depth)
	wantError(t, l, e, api.OK)
	total := 0
	for i := 0; i < len(words); i += 15 {
		word, n, e := code.DecodeBlock(l.Half, words[i:i+15])
		if e != api.OK {
			return nil, 0, false
		}
		data = append(data, word[:15-2*l.Half]...)
		total += n
	}
	return data, total, true
}

// P5.6: the errors of a link, data and soft symbols, in this order.
func TestLinkErrors(t *testing.T) {
	encodes := func(l api.CodeLink, data []int, want api.Errno) {
		t.Helper()
		got, e := code.EncodeLink(l, data)
		wantNothing(t, l, got, 0, e, want)
	}
	decodes := func(l api.CodeLink, soft []int, want api.Errno) {
		t.Helper()
		got, n, e := code.DecodeLink(l, soft)
		wantNothing(t, l, got, n, e, want)
	}
	for _, l := range badLinks() {
		for _, items := range [][]int{nil, {99}, make([]int, 13), make([]int, 124)} {
			encodes(l, items, api.ErrRange)
			decodes(l, items, api.ErrRange)
		}
	}
	for half := 1; half <= 3; half++ {
		for depth := 1; depth <= 4; depth++ {
			l := link(goodCode(), half, depth)
			count, symbols := depth*(15-2*half), 2*(60*depth+2)
			for _, wrong := range []int{-1, 1} {
				encodes(l, make([]int, count+wrong), api.ErrShape)
				encodes(l, withItem(count+wrong, 16), api.ErrShape) // before the range
				decodes(l, make([]int, symbols+wrong), api.ErrShape)
				decodes(l, make([]int, symbols+2*wrong), api.ErrShape)
				decodes(l, withItem(symbols+wrong, 8), api.ErrShape)
			}
			encodes(l, nil, api.ErrShape)
			decodes(l, nil, api.ErrShape)
			for _, data := range badItems(count, 0, 15) {
				encodes(l, data.value, data.want)
			}
			for _, soft := range badItems(symbols, -7, 7) {
				decodes(l, soft.value, soft.want)
			}
		}
	}
	l := link(convolution(1, 2, 2), 1, 1)
	lost := clearly(symbolsOf(l, append(make([]int, 12), 0, 1, 2)), 1) // the syndromes are 0 and 6
	decodes(l, lost, api.ErrLost)
	lost[len(lost)-1] = 8 // the range comes before the loss
	decodes(l, lost, api.ErrRange)
}
