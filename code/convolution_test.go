package code_test

import (
	"math/rand"
	"slices"
	"testing"

	"cassegrain/api"
	"cassegrain/code"
)

// P5.1: all valid codes, and others.
func TestCheckConvolution(t *testing.T) {
	for _, c := range allCodes() {
		wantError(t, c, code.CheckConvolution(c), api.OK)
	}
	for _, c := range badCodes() {
		wantError(t, c.value, code.CheckConvolution(c.value), c.want)
		n, e := code.FreeDistance(c.value)
		wantNothing(t, c.value, nil, n, e, c.want)
	}
}

// P5.1: example 1, and the edge case of no bits.
func TestEncodeBits(t *testing.T) {
	for _, c := range []struct {
		code          api.CodeConvolution
		bits, symbols []int
	}{
		{goodCode(), []int{1, 0}, []int{1, 1, 1, 0, 1, 1, 0, 0}},
		{goodCode(), nil, []int{0, 0, 0, 0}},
		{goodCode(), []int{1}, []int{1, 1, 1, 0, 1, 1}},
		{goodCode(), []int{1, 1}, []int{1, 1, 0, 1, 0, 1, 1, 1}},
		{convolution(1, 1, 2), []int{1, 0, 1}, []int{0, 1, 1, 0, 0, 1, 1, 0}},
		{convolution(1, 3, 3), nil, []int{0, 0}},
		{convolution(3, 15, 11), []int{1}, []int{1, 1, 1, 0, 1, 1, 1, 1}},
		{convolution(3, 1, 8), []int{1}, []int{0, 1, 0, 0, 0, 0, 1, 0}},
		{convolution(3, 9, 6), nil, make([]int, 6)},
		{convolution(3, 9, 6), make([]int, 300), make([]int, 606)},
	} {
		got, e := code.EncodeBits(c.code, c.bits)
		wantSlice(t, c, got, e, c.symbols)
	}
}

// P5.1: symbols and metrics by the definition.
func TestEncodeByDefinition(t *testing.T) {
	r := rand.New(rand.NewSource(1))
	for _, c := range append(allCodes(), allCodes()...) {
		bits := numbers(r, r.Intn(301), 0, 1)
		before := slices.Clone(bits)
		symbols, e := code.EncodeBits(c, bits)
		wantSlice(t, c, symbols, e, symbolsByDefinition(c, bits))
		soft := numbers(r, len(symbols), -7, 7)
		kept := slices.Clone(soft)
		clear(symbols)
		metric, e := code.MetricOf(c, bits, soft)
		wantNumber(t, c, metric, e, metricByDefinition(c, bits, soft))
		wantSame(t, "the bits", bits, before)
		wantSame(t, "the soft symbols", soft, kept)
	}
}

// P5.1: example 3, and the greatest metrics.
func TestMetricOf(t *testing.T) {
	example := []int{-1, -1, 1, 1, -1, -1, 1, 1}
	for _, c := range []struct {
		code       api.CodeConvolution
		bits, soft []int
		want       int
	}{
		{goodCode(), []int{1, 0}, example, 6},
		{goodCode(), []int{0, 0}, example, 0},
		{goodCode(), nil, []int{1, -2, 3, -7}, -5},
		{goodCode(), []int{1}, []int{7, 0, -3, 2, 1, 1}, -4},
		{convolution(3, 15, 11), make([]int, 300), slices.Repeat([]int{7}, 606), 4242},
		{convolution(3, 15, 11), make([]int, 300), slices.Repeat([]int{-7}, 606), -4242},
	} {
		n, e := code.MetricOf(c.code, c.bits, c.soft)
		wantNumber(t, c, n, e, c.want)
	}
}

// P5.1: the errors of the code, the bits and the soft symbols, and their numbers.
func TestEncodeErrors(t *testing.T) {
	encodes := func(c api.CodeConvolution, bits []int, want api.Errno) {
		t.Helper()
		got, e := code.EncodeBits(c, bits)
		wantNothing(t, c, got, 0, e, want)
	}
	measures := func(c api.CodeConvolution, bits, soft []int, want api.Errno) {
		t.Helper()
		n, e := code.MetricOf(c, bits, soft)
		wantNothing(t, c, nil, n, e, want)
	}
	for _, c := range badCodes() {
		encodes(c.value, []int{1}, c.want)
		encodes(c.value, make([]int, 301), c.want)
		measures(c.value, []int{1}, make([]int, 6), c.want)
		measures(c.value, make([]int, 301), []int{9}, c.want)
	}
	for _, bits := range badBits() {
		encodes(goodCode(), bits.value, bits.want)
		measures(goodCode(), bits.value, make([]int, 2*len(bits.value)+4), bits.want)
		measures(goodCode(), bits.value, []int{9}, bits.want)
	}
	for memory := 1; memory <= 3; memory++ {
		c := convolution(memory, 1, 3)
		for _, soft := range badSoft(c) {
			measures(c, []int{1, 0, 1}, soft.value, soft.want)
			measures(c, make([]int, 300), soft.value, soft.want)
		}
		for _, bits := range []int{0, 2, 4, 300} {
			measures(c, make([]int, bits), make([]int, 2*(3+memory)), api.ErrClash)
		}
	}
}

// P5.2: example 2, and the edge case of even generators.
func TestFreeDistance(t *testing.T) {
	for _, c := range []struct {
		code api.CodeConvolution
		want int
	}{
		{goodCode(), 5},
		{convolution(1, 1, 1), 2},
		{convolution(1, 2, 2), 2},
		{convolution(1, 1, 3), 3},
		{convolution(2, 6, 2), 3},
		{convolution(2, 6, 6), 4},
		{convolution(2, 3, 5), 4},
		{convolution(3, 15, 11), 6},
		{convolution(3, 8, 8), 2},
		{convolution(3, 8, 14), 4},
	} {
		n, e := code.FreeDistance(c.code)
		wantNumber(t, c, n, e, c.want)
	}
}

// P5.2: free distances of all codes by the definition.
func TestFreeByDefinition(t *testing.T) {
	for _, c := range allCodes() {
		n, e := code.FreeDistance(c)
		wantNumber(t, c, n, e, freeByDefinition(c))
	}
}
