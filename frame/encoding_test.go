package frame_test

import (
	"math/rand"
	"slices"
	"testing"

	"cassegrain/api"
	"cassegrain/frame"
)

// exampleFrame is that of example 1.
func exampleFrame() api.FrameFrame {
	return newFrame(1, 5, 0, 7, 0, 0, 255)
}

// P6.1: example 1, and sums by the definition.
func TestSumOf(t *testing.T) {
	for _, c := range []struct {
		b    []int
		want int
	}{
		{[]int{1, 5, 0, 7, 0, 0, 255}, 4684},
		{[]int{0}, 257},
		{[]int{250}, 0},
		{[]int{249}, 250*256 + 250},
		{[]int{255}, 5*256 + 5},
		{[]int{250, 250}, 250*256 + 250},
		{make([]int, 29), 256 + 29},
	} {
		n, e := frame.SumOf(c.b)
		wantNumber(t, c.b, n, e, c.want)
	}
	r := rand.New(rand.NewSource(2))
	for range 1000 {
		b := numbers(r, between(r, 1, 29), 0, 255)
		before := slices.Clone(b)
		s := sumsByDefinition(b)
		n, e := frame.SumOf(b)
		wantNumber(t, b, n, e, 256*s[0]+s[1])
		wantSame(t, "the bytes", b, before)
	}
}

// P6.1: the errors of bytes, their number before their values.
func TestSumOfErrors(t *testing.T) {
	for _, b := range [][]int{nil, {}} {
		n, e := frame.SumOf(b)
		wantNothing(t, b, n, e, api.ErrShape)
	}
	for _, b := range [][]int{make([]int, 30), repeated(-1, 30), repeated(256, 5000)} {
		n, e := frame.SumOf(b)
		wantNothing(t, len(b), n, e, api.ErrLarge)
	}
	for _, bad := range badNumbers(0, 255) {
		for _, b := range [][]int{{bad}, {1, 2, bad}, {bad, 1, 2}, append(make([]int, 28), bad)} {
			n, e := frame.SumOf(b)
			wantNothing(t, b, n, e, api.ErrRange)
		}
	}
}

// P6.2: example 1, and encodings by the definition; decoding gives the frame back.
func TestEncode(t *testing.T) {
	got, e := frame.Encode(exampleRules(), exampleFrame())
	wantSlice(t, "example 1", got, e, []int{1, 5, 0, 7, 0, 0, 255, 18, 76})
	r := rand.New(rand.NewSource(3))
	for range 1000 {
		x := randomRules(r)
		f := randomFrame(r, x)
		before := slices.Clone(f.Data)
		got, e := frame.Encode(x, f)
		wantSlice(t, f, got, e, encodedByDefinition(f))
		given := slices.Clone(got)
		back, e := frame.Decode(x, got)
		wantFrame(t, f, back, e, f)
		wantSame(t, "the encoding", got, given)
		clear(got)
		wantFrame(t, "the decoded frame", back, e, f)
		got, e = frame.Encode(x, f)
		wantSlice(t, f, got, e, given)
		clear(back.Data)
		wantSame(t, "the encoding", got, given)
		clear(got)
		wantSame(t, "the data", f.Data, before)
	}
}

// P6.2: the errors of rules and frames.
func TestEncodeErrors(t *testing.T) {
	for _, x := range badRules() {
		got, e := frame.Encode(x, exampleFrame())
		wantNothing(t, x, len(got), e, api.ErrRange)
		got, e = frame.Encode(x, newFrame(-1, 0, 0))
		wantNothing(t, x, len(got), e, api.ErrRange)
	}
	for _, c := range badFrames() {
		got, e := frame.Encode(exampleRules(), c.value)
		wantNothing(t, c, len(got), e, c.want)
	}
}

// withSums returns bytes with their sums.
func withSums(b ...int) []int {
	s := sumsByDefinition(b)
	return slices.Concat(b, s[:])
}

// P6.2: the errors of encodings, in their order.
func TestDecodeErrors(t *testing.T) {
	example := encodedByDefinition(exampleFrame())
	for _, x := range badRules() {
		f, e := frame.Decode(x, example)
		wantNoFrame(t, x, f, e, api.ErrRange)
		f, e = frame.Decode(x, nil)
		wantNoFrame(t, x, f, e, api.ErrRange)
	}
	for _, b := range [][]int{nil, example[:8], append(slices.Clone(example), 0), repeated(-1, 8), repeated(-1, 10), make([]int, 5000), withSums(0, 0, 0, 1, 2, 3), withSums(0, 0, 0, 1, 2, 3, 4, 5)} {
		f, e := frame.Decode(exampleRules(), b)
		wantNoFrame(t, b, f, e, api.ErrShape)
	}
	for i := range example {
		for _, bad := range badNumbers(0, 255) {
			f, e := frame.Decode(exampleRules(), with(example, i, bad))
			wantNoFrame(t, i, f, e, api.ErrRange)
		}
		f, e := frame.Decode(exampleRules(), with(example, i, example[i]^1))
		wantNoFrame(t, i, f, e, api.ErrSum)
	}
	for _, c := range []struct {
		b    []int
		want api.Errno
	}{
		{withSums(2, 0, 0, 1, 2, 3, 4), api.ErrMissing},
		{withSums(255, 64, 4, 1, 2, 3, 4), api.ErrMissing},
		{withSums(1, 64, 0, 1, 2, 3, 4), api.ErrRange},
		{withSums(1, 0, 4, 1, 2, 3, 4), api.ErrRange},
		{withSums(1, 0, 254, 1, 2, 3, 4), api.ErrRange},
		{[]int{2, 64, 4, 1, 2, 3, 4, 0, 0}, api.ErrSum},
	} {
		f, e := frame.Decode(exampleRules(), c.b)
		wantNoFrame(t, c.b, f, e, c.want)
	}
}

// P6.2, P6.7: sums are compared as they are: also a sum that differs by 251 is another one.
func TestDecodeSumsAsTheyAre(t *testing.T) {
	b := withSums(0, 0, 0, 0, 0, 0, 250) // the sums 0 and 6
	f, e := frame.Decode(exampleRules(), b)
	wantFrame(t, b, f, e, newFrame(0, 0, 0, 0, 0, 0, 250))
	f, e = frame.Decode(exampleRules(), with(b, 7, 251))
	wantNoFrame(t, b, f, e, api.ErrSum)
	b = withSums(0, 0, 0, 0, 0, 0, 246) // the sums 247 and 2
	f, e = frame.Decode(exampleRules(), with(b, 8, b[8]+251))
	wantNoFrame(t, b, f, e, api.ErrSum)
}

// P6.7: all changes of one byte, and all exchanges of neighbours.
func TestChangesAreDetected(t *testing.T) {
	r := rand.New(rand.NewSource(4))
	for range 40 {
		x := randomRules(r)
		b := encodedByDefinition(randomFrame(r, x))
		for i, old := range b {
			for n := range 256 {
				if (n-old)%251 != 0 {
					f, e := frame.Decode(x, with(b, i, n))
					wantNoFrame(t, []int{i, n}, f, e, api.ErrSum)
				}
			}
			if i > 0 && (b[i-1]-old)%251 != 0 {
				f, e := frame.Decode(x, with(with(b, i, b[i-1]), i-1, old))
				wantNoFrame(t, i, f, e, api.ErrSum)
			}
		}
	}
}

// P6.7: the bytes that the sums do not distinguish are those that differ by 251.
func TestChangesThatAreNotDetected(t *testing.T) {
	given := newFrame(0, 0, 255, 0, 251, 4, 255)
	b := encodedByDefinition(given)
	for i, n := range map[int]int{3: 251, 4: 0, 5: 255, 6: 4} {
		want := newFrame(0, 0, 255, with(given.Data, i-3, n)...)
		f, e := frame.Decode(exampleRules(), with(b, i, n))
		wantFrame(t, i, f, e, want)
	}
	f, e := frame.Decode(exampleRules(), with(with(b, 3, 251), 4, 0))
	wantFrame(t, "exchanged", f, e, newFrame(0, 0, 255, 251, 0, 4, 255))
}
