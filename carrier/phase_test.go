package carrier_test

import (
	"math"
	"math/rand"
	"slices"
	"testing"

	"cassegrain/api"
	"cassegrain/carrier"
)

// P3.1: samples on and beside the borders of all eighths.
func TestPhaseOfBorders(t *testing.T) {
	for g, want := range map[api.Gauss]int{
		gauss(1, 0): 256, gauss(0, 1): 1280, gauss(-1, 0): 2304, gauss(0, -1): 3328,
		gauss(1, 1): 768, gauss(-1, 1): 1792, gauss(-1, -1): 2816, gauss(1, -1): 3840,
		gauss(2, 1): 256, gauss(1, 2): 768, gauss(-1, 2): 1280, gauss(-2, 1): 1792,
		gauss(-2, -1): 2304, gauss(-1, -2): 2816, gauss(1, -2): 3328, gauss(2, -1): 3840,
		gauss(2000, 1999): 256, gauss(1999, 2000): 768, gauss(2000, 2000): 768, gauss(1, 2000): 768,
		gauss(-1999, 2000): 1280, gauss(-2000, 2000): 1792, gauss(-2000, 1999): 1792, gauss(-2000, 1): 1792,
		gauss(-2000, -1999): 2304, gauss(-2000, -2000): 2816, gauss(2000, -2000): 3840, gauss(2000, -1): 3840,
	} {
		if n, e := carrier.PhaseOf(g); e != api.OK || n != want {
			t.Error(g, n, e, want)
		}
	}
}

// P3.1: the phase differs by at most a sixteenth of a turn from the direction of a sample, and increases by a quarter turn when the sample is turned by one.
func TestPhaseOf(t *testing.T) {
	r := rand.New(rand.NewSource(1))
	for range 3000 {
		g := randomSamples(r, 1, []int{3, 30, 2000}[r.Intn(3)])[0]
		if g == (api.Gauss{}) {
			continue
		}
		n, e := carrier.PhaseOf(g)
		off := math.Mod(math.Atan2(float64(g.Im), float64(g.Re))/(2*math.Pi)*4096-float64(n)+3*4096, 4096)
		if e != api.OK || min(off, 4096-off) > 256.0001 || n%512 != 256 || n < 0 || n > 4095 {
			t.Fatal(g, n, e, off)
		}
		turned, e := carrier.PhaseOf(times(g, gauss(0, 1)))
		if e != api.OK || turned != (n+1024)%4096 {
			t.Fatal(g, n, turned, e)
		}
	}
}

// P3.1: the errors of a sample.
func TestPhaseOfErrors(t *testing.T) {
	for g, want := range map[api.Gauss]api.Errno{
		{}:                    api.ErrZero,
		gauss(2001, 0):        api.ErrRange,
		gauss(-2001, 0):       api.ErrRange,
		gauss(0, 2001):        api.ErrRange,
		gauss(0, -2001):       api.ErrRange,
		gauss(math.MinInt, 0): api.ErrRange,
		gauss(0, math.MinInt): api.ErrRange,
		gauss(math.MaxInt, 1): api.ErrRange,
	} {
		n, e := carrier.PhaseOf(g)
		wantError(t, g, e, want)
		if n != 0 {
			t.Error(g, n)
		}
	}
}

// P3.1: example 6, and half a turn both ways.
func TestUnwrapped(t *testing.T) {
	for _, c := range []struct{ phases, want []int }{
		{[]int{4000, 100, 4000}, []int{4000, 4196, 4000}},
		{[]int{0, 2048}, []int{0, -2048}},
		{[]int{2048, 0}, []int{2048, 0}},
		{[]int{0, 2047}, []int{0, 2047}},
		{[]int{0, 2049}, []int{0, -2047}},
		{[]int{4095, 2048}, []int{4095, 2048}},
		{[]int{0, 4095, 4094, 3000}, []int{0, -1, -2, -1096}},
		{[]int{3000, 4000, 900, 1900, 2900, 3900}, []int{3000, 4000, 4996, 5996, 6996, 7996}},
		{[]int{4095}, []int{4095}},
		{[]int{}, nil},
		{nil, nil},
	} {
		got, e := carrier.Unwrapped(c.phases)
		wantError(t, c.phases, e, api.OK)
		wantSame(t, c.phases, got, c.want)
	}
}

// P3.1: unwrapped phases by their definition.
func TestUnwrappedByDefinition(t *testing.T) {
	r := rand.New(rand.NewSource(2))
	for range 200 {
		phases := randomPhases(r, between(r, 1, 200))
		before := slices.Clone(phases)
		got, e := carrier.Unwrapped(phases)
		wantError(t, phases, e, api.OK)
		if len(got) != len(phases) || got[0] != phases[0] {
			t.Fatal(phases, got)
		}
		for n, total := range got {
			if remainder(total, 4096) != phases[n] || n > 0 && (total-got[n-1] < -2048 || total-got[n-1] > 2047) {
				t.Fatal(phases, got, n)
			}
		}
		clear(got)
		wantSame(t, "the argument", phases, before)
	}
}

func TestUnwrappedErrors(t *testing.T) {
	for _, c := range badPhases() {
		got, e := carrier.Unwrapped(c.value)
		wantError(t, len(c.value), e, c.want)
		wantSame(t, len(c.value), got, nil)
	}
}
