package code

import (
	"slices"

	"cassegrain/api"
	"cassegrain/check"
)

// elementBits is the number of bits of an element.
const elementBits = 4

// CheckLink checks a link.
func CheckLink(l api.CodeLink) api.Errno {
	return check.First(
		convolutionCheck(l.Inner),
		halfCheck(l.Half),
		check.Range(l.Depth, 1, api.MaxCodeDepth),
	)
}

// linkCheck is the check of a link.
func linkCheck(l api.CodeLink) func() api.Errno {
	return func() api.Errno { return CheckLink(l) }
}

// symbolCount returns the number of symbols of a valid link.
func symbolCount(l api.CodeLink) int {
	return 2 * (elementBits*api.CodeSymbols*l.Depth + l.Inner.Memory)
}

// EncodeLink returns the symbols of data.
func EncodeLink(l api.CodeLink, data []int) ([]int, api.Errno) {
	e := check.First(
		linkCheck(l),
		check.Require(api.ErrShape, func() bool { return len(data) == l.Depth*dataCount(l.Half) }),
		elementsCheck(data),
	)
	if e != api.OK {
		return nil, e
	}
	var words, bits []int
	for part := range slices.Chunk(data, dataCount(l.Half)) {
		w := encodedBlock(l.Half, part)
		words = append(words, w[:]...)
	}
	for _, element := range interleaved(words, l.Depth) {
		bits = append(bits, unpacked(element, elementBits)...)
	}
	return encoded(l.Inner, bits), api.OK
}

// DecodeLink returns the data that soft symbols stand for, and in how many elements all words together were corrected.
func DecodeLink(l api.CodeLink, soft []int) ([]int, int, api.Errno) {
	e := check.First(
		linkCheck(l),
		check.Require(api.ErrShape, func() bool { return len(soft) == symbolCount(l) }),
		check.Each(soft, softItem),
	)
	if e != api.OK {
		return nil, 0, e
	}
	bits, _ := trellis{CodeConvolution: l.Inner, soft: soft}.bestBits()
	var elements, data []int
	for part := range slices.Chunk(bits, elementBits) {
		elements = append(elements, packed(part))
	}
	total := 0
	for part := range slices.Chunk(deinterleaved(elements, l.Depth), api.CodeSymbols) {
		right, count, ok := word(part).corrected(l.Half)
		if !ok {
			return nil, 0, api.ErrLost
		}
		data = append(data, right[:dataCount(l.Half)]...)
		total += count
	}
	return data, total, api.OK
}
