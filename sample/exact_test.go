package sample_test

import (
	"math"
	"math/rand"
	"slices"
	"testing"

	"cassegrain/api"
)

// The tests compare the package with the definitions of the chapter, which this file computes slowly, in whole numbers.

// wantError reports an error that differs from the wanted one.
func wantError(t *testing.T, what any, got, want api.Errno) {
	t.Helper()
	if got != want {
		t.Errorf("%v: error %d, want %d", what, got, want)
	}
}

// wantSame reports a slice that differs from the wanted one; a nil slice is an empty one.
func wantSame[T comparable](t *testing.T, what any, got, want []T) {
	t.Helper()
	if !slices.Equal(got, want) {
		t.Errorf("%v: %v, want %v", what, got, want)
	}
}

func gauss(re, im int) api.Gauss {
	return api.Gauss{Re: re, Im: im}
}

// reals returns samples whose imaginary parts are 0.
func reals(parts ...int) []api.Gauss {
	x := make([]api.Gauss, len(parts))
	for i, re := range parts {
		x[i].Re = re
	}
	return x
}

// times returns the product of two whole complex numbers.
func times(a, b api.Gauss) api.Gauss {
	return gauss(a.Re*b.Re-a.Im*b.Im, a.Re*b.Im+a.Im*b.Re)
}

func plus(a, b api.Gauss) api.Gauss {
	return gauss(a.Re+b.Re, a.Im+b.Im)
}

// power returns base to the power n, which is from 0 on.
func power(base api.Gauss, n int) api.Gauss {
	p := gauss(1, 0)
	for range n % 4 { // i and -i to the power 4 are 1
		p = times(p, base)
	}
	return p
}

func norm(g api.Gauss) int {
	return g.Re*g.Re + g.Im*g.Im
}

func energy(x []api.Gauss) int {
	sum := 0
	for _, g := range x {
		sum += norm(g)
	}
	return sum
}

// binByDefinition returns the sum, over all n, of x[n] times (-i) to the power quarter n.
func binByDefinition(x []api.Gauss, quarter int) api.Gauss {
	var sum api.Gauss
	for n, g := range x {
		sum = plus(sum, times(g, power(gauss(0, -1), quarter*n)))
	}
	return sum
}

// roundedDown returns num / den rounded down.
func roundedDown(num, den int) int {
	n := 0
	for n*den > num {
		n--
	}
	for (n+1)*den <= num {
		n++
	}
	return n
}

// outputByDefinition returns the output of a filter at an index.
func outputByDefinition(f api.SampleFilter, x []api.Gauss, n int) api.Gauss {
	var sum api.Gauss
	for k, c := range f.Coefficients {
		if n-k >= 0 {
			sum = plus(sum, gauss(c*x[n-k].Re, c*x[n-k].Im))
		}
	}
	return gauss(roundedDown(sum.Re, f.Den), roundedDown(sum.Im, f.Den))
}

// phasesByDefinition returns the phases of a program at the indices from 0 on, each made from the one before.
func phasesByDefinition(p api.SampleProgram, count int) []int {
	var phases []int
	phase, increment := p.Phase, p.Increment
	for range count {
		phase = ((phase % 4096) + 4096) % 4096
		phases = append(phases, phase)
		phase += increment
		increment += p.Change
	}
	return phases
}

// turnsByDefinition returns the number of quarter turns that is closest to a phase.
func turnsByDefinition(phase int) int {
	switch {
	case phase < 512 || phase >= 3584:
		return 0
	case phase < 1536:
		return 1
	case phase < 2560:
		return 2
	}
	return 3
}

// between returns a random number from lo to hi.
func between(r *rand.Rand, lo, hi int) int {
	return lo + r.Intn(hi-lo+1)
}

func randomSamples(r *rand.Rand, count, limit int) []api.Gauss {
	x := make([]api.Gauss, count)
	for i := range x {
		x[i] = gauss(between(r, -limit, limit), between(r, -limit, limit))
	}
	return x
}

func randomProgram(r *rand.Rand) api.SampleProgram {
	return api.SampleProgram{Phase: between(r, 0, 4095), Increment: between(r, -4096, 4096), Change: between(r, -4096, 4096)}
}

func randomFilter(r *rand.Rand, taps, weight, den int) api.SampleFilter {
	f := api.SampleFilter{Den: between(r, 1, den)}
	for range between(r, 1, taps) {
		f.Coefficients = append(f.Coefficients, between(r, -weight, weight))
	}
	return f
}

func filter(den int, coefficients ...int) api.SampleFilter {
	return api.SampleFilter{Coefficients: coefficients, Den: den}
}

// sameFilter says whether two filters are equal.
func sameFilter(f, g api.SampleFilter) bool {
	return f.Den == g.Den && slices.Equal(f.Coefficients, g.Coefficients)
}

// badNumbers returns numbers that are not from lo to hi.
func badNumbers(lo, hi int) []int {
	return []int{lo - 1, hi + 1, math.MinInt, math.MaxInt}
}

// badSample is greater in size than MaxSample.
var badSample = gauss(0, 2001)

// badSamples returns samples with their errors.
func badSamples() []struct {
	x    []api.Gauss
	want api.Errno
} {
	type row = struct {
		x    []api.Gauss
		want api.Errno
	}
	last := make([]api.Gauss, 400)
	last[399] = badSample
	return []row{
		{make([]api.Gauss, 401), api.ErrLarge},
		{append(last[:400:400], gauss(0, 0)), api.ErrLarge}, // before the range
		{last, api.ErrRange},
		{[]api.Gauss{gauss(2001, 0)}, api.ErrRange},
		{[]api.Gauss{gauss(-2001, 0)}, api.ErrRange},
		{[]api.Gauss{gauss(0, 2001)}, api.ErrRange},
		{[]api.Gauss{gauss(0, -2001)}, api.ErrRange},
		{[]api.Gauss{gauss(math.MinInt, 0)}, api.ErrRange},
		{[]api.Gauss{gauss(0, math.MaxInt)}, api.ErrRange},
		{make([]api.Gauss, 400), api.OK},
		{[]api.Gauss{gauss(2000, -2000), gauss(-2000, 2000)}, api.OK},
		{nil, api.OK},
	}
}

// badPrograms returns programs that are not valid: all are ErrRange.
func badPrograms() []api.SampleProgram {
	var l []api.SampleProgram
	for _, n := range badNumbers(0, 4095) {
		l = append(l, api.SampleProgram{Phase: n})
	}
	for _, n := range badNumbers(-4096, 4096) {
		l = append(l, api.SampleProgram{Increment: n}, api.SampleProgram{Change: n})
	}
	return l
}

// badFilters returns filters with their errors.
func badFilters() []struct {
	f    api.SampleFilter
	want api.Errno
} {
	type row = struct {
		f    api.SampleFilter
		want api.Errno
	}
	return []row{
		{filter(1), api.ErrShape},
		{filter(0), api.ErrShape}, // before the range of the denominator
		{filter(1, 1, 2, 3, 4, 5, 6, 7, 8, 9), api.ErrLarge},
		{filter(0, 101, 2, 3, 4, 5, 6, 7, 8, 9), api.ErrLarge}, // before all ranges
		{filter(1, 101), api.ErrRange},
		{filter(1, -101), api.ErrRange},
		{filter(1, 1, 2, 3, 4, 5, 6, 7, 101), api.ErrRange},
		{filter(1, math.MinInt), api.ErrRange},
		{filter(1, math.MaxInt), api.ErrRange},
		{filter(0, 1), api.ErrRange},
		{filter(-1, 1), api.ErrRange},
		{filter(101, 1), api.ErrRange},
		{filter(math.MinInt, 1), api.ErrRange},
		{filter(math.MaxInt, 1), api.ErrRange},
	}
}
