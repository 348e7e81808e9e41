package symbol_test

import (
	"math/rand"
	"slices"
	"testing"

	"cassegrain/api"
	"cassegrain/symbol"
)

// sevenSamples are the samples of the chapter's examples 1 and 2.
func sevenSamples() []api.Gauss {
	return reals(1, 1, -2, -2, 2, 2, -1)
}

// P4.1: example 1, and few samples.
func TestEnergies(t *testing.T) {
	for _, c := range []struct {
		x      []api.Gauss
		length int
		want   []int
		best   int
	}{
		{sevenSamples(), 2, []int{36, 2}, 0},
		{sevenSamples()[:6], 2, []int{20, 1}, 0},
		{sevenSamples()[1:], 2, []int{1, 32}, 1},
		{sevenSamples(), 1, []int{19}, 0},
		{sevenSamples(), 4, []int{4, 1, 0, 1}, 0},
		{sevenSamples(), 3, []int{0, 9, 4}, 1},
		{reals(1, -1, 1, -1, 1), 2, []int{0, 0}, 0},
		{[]api.Gauss{gauss(0, 3), gauss(2, 0), gauss(0, 1)}, 2, []int{13, 5}, 0},
		{reals(5, 5, 5), 3, []int{0, 0, 0}, 0}, // none from the last offset
		{reals(5, 5), 3, []int{0, 0, 0}, 0},
		{reals(5), 2, []int{0, 0}, 0},
		{nil, 3, []int{0, 0, 0}, 0},
		{[]api.Gauss{}, 1, []int{0}, 0},
		{nil, 16, make([]int, 16), 0},
		{slices.Repeat([]api.Gauss{gauss(2000, -2000)}, 400), 16, slices.Repeat([]int{24 * 2 * 32000 * 32000}, 16), 0},
		{slices.Repeat([]api.Gauss{gauss(-2000, 1999)}, 400), 1, []int{400 * (4000000 + 3996001)}, 0},
	} {
		got, e := symbol.Energies(c.x, c.length)
		wantSlice(t, c.length, got, e, c.want)
		if best, e := symbol.BestOffset(c.x, c.length); e != api.OK || best != c.best {
			t.Error(c.length, best, e, c.best)
		}
	}
}

// P4.1: sums from all offsets of the samples of example 1, also those that energies leave out.
func TestSumsFrom(t *testing.T) {
	for _, c := range []struct {
		x              []api.Gauss
		length, offset int
		want           []api.Gauss
	}{
		{sevenSamples(), 2, 0, reals(2, -4, 4)},
		{sevenSamples(), 2, 1, reals(-1, 0, 1)},
		{sevenSamples()[:6], 2, 0, reals(2, -4, 4)},
		{sevenSamples()[:6], 2, 1, reals(-1, 0)},
		{sevenSamples(), 3, 2, reals(-2)},
		{sevenSamples(), 1, 0, sevenSamples()},
		{[]api.Gauss{gauss(1, 2), gauss(3, -5)}, 2, 0, []api.Gauss{gauss(4, -3)}},
		{slices.Repeat([]api.Gauss{gauss(2000, -1999)}, 33), 16, 1, slices.Repeat([]api.Gauss{gauss(32000, -31984)}, 2)},
		{reals(1, 2), 3, 2, nil},
		{reals(1, 2), 2, 1, nil},
		{nil, 16, 15, nil},
	} {
		got, e := symbol.SumsFrom(c.x, c.length, c.offset)
		wantSlice(t, c, got, e, c.want)
	}
}

// P4.1: energies and sums by the definition, for samples with a symbol timing and without one.
func TestEnergiesByDefinition(t *testing.T) {
	r := rand.New(rand.NewSource(1))
	for range 500 {
		length := between(r, 1, 16)
		x := randomSamples(r, r.Intn(60), []int{1, 9, 2000}[r.Intn(3)])
		if r.Intn(10) == 0 {
			x = randomSamples(r, 400, 2000)
		}
		before := slices.Clone(x)
		want := energiesByDefinition(x, length)
		got, e := symbol.Energies(x, length)
		wantSlice(t, x, got, e, want)
		if best, e := symbol.BestOffset(x, length); e != api.OK || best != slices.Index(want, slices.Max(want)) {
			t.Fatal(x, length, best, e, want)
		}
		for offset := range length {
			got, e := symbol.SumsFrom(x, length, offset)
			wantSlice(t, x, got, e, sumsByDefinition(x, length, offset))
			clear(got)
		}
		wantSame(t, "the samples", x, before)
	}
}

// P4.1: the errors of samples, a length and an offset.
func TestEnergiesErrors(t *testing.T) {
	wantNone := func(x []api.Gauss, length int, want api.Errno) {
		t.Helper()
		energies, e := symbol.Energies(x, length)
		wantNothing(t, length, energies, e, want)
		best, e := symbol.BestOffset(x, length)
		wantError(t, length, e, want)
		if best != 0 {
			t.Error(length, best)
		}
		for _, offset := range []int{0, -1, length} {
			sums, e := symbol.SumsFrom(x, length, offset)
			wantNothing(t, offset, sums, e, want)
		}
	}
	for _, c := range badSamples() {
		wantNone(c.value, 1, c.want)
		wantNone(c.value, 0, c.want) // before the length
	}
	for _, length := range badNumbers(1, 16) {
		wantNone(sevenSamples(), length, api.ErrRange)
		wantNone(nil, length, api.ErrRange)
	}
	for _, length := range []int{1, 2, 7, 16} {
		for _, offset := range badNumbers(0, length-1) {
			sums, e := symbol.SumsFrom(sevenSamples(), length, offset)
			wantNothing(t, offset, sums, e, api.ErrRange)
		}
	}
}

// lateSteps are the samples of the second part of the chapter's example 2.
func lateSteps() []api.Gauss {
	return reals(0, 3, 3, 3, 0, 0)
}

// P4.1: example 2, thresholds, and few samples.
func TestStarts(t *testing.T) {
	for _, c := range []struct {
		length, threshold int
		x                 []api.Gauss
		want              []int
	}{
		{2, 0, sevenSamples(), []int{0, 2, 4}},
		{2, 0, lateSteps(), []int{0, 3, 4}},
		{2, 8, lateSteps(), []int{0, 3, 4}},
		{2, 9, lateSteps(), []int{0, 2, 4}},
		{2, 0, reals(0, 3, 3, 0, 0), []int{0, 3}},
		{2, 0, turned(lateSteps(), 1), []int{0, 3, 4}},
		{2, 0, reals(2, 1, 2, 1, 2), []int{0, 1}},
		{2, 0, reals(3, 0, 0, 0, 0, 0), []int{0, 1, 3}},
		{4, 0, reals(1, 1, 2, 1, 9, 2, 1, 1, 1, 9), []int{0, 5}},
		{4, 4, reals(1, 1, 2, 1, 9, 2, 1, 1, 1, 9), []int{0, 5}},
		{4, 5, reals(1, 1, 2, 1, 9, 2, 1, 1, 1, 9), []int{0, 4}},
		{4, 5, reals(1, 1, 2, 1, 9, 2, 1, 1, 1, 9, 9), []int{0, 4, 7}},
		{4, 0, []api.Gauss{gauss(0, 1), gauss(0, 1), gauss(1, 0), gauss(1, 1), gauss(0, 0), gauss(0, 0), gauss(0, 0), gauss(0, 0), gauss(0, 0)}, []int{0, 5}},
		{2, 0, reals(4, 4), []int{0}},
		{2, 0, reals(4), nil},
		{16, 0, make([]api.Gauss, 31), []int{0}},
		{16, 0, make([]api.Gauss, 32), []int{0, 16}},
		{2, 1000000000000000, reals(2000, 0, 0, 2000), []int{0, 2}},
		{2, 3999999, reals(2000, 0, 0, 2000), []int{0, 1}},
		{2, 0, nil, nil},
	} {
		got, e := symbol.Starts(api.SymbolTiming{Length: c.length, Threshold: c.threshold}, c.x)
		wantSlice(t, c, got, e, c.want)
	}
}

// P4.1: starts by the definition. P4.12: successive ones differ by Length - 1, Length or Length + 1.
func TestStartsByDefinition(t *testing.T) {
	r := rand.New(rand.NewSource(2))
	for range 500 {
		timing := api.SymbolTiming{Length: 2 * between(r, 1, 8)}
		limit := []int{1, 9, 2000}[r.Intn(3)]
		if r.Intn(2) == 0 {
			timing.Threshold = r.Intn(limit * limit * timing.Length)
		}
		x := randomSamples(r, r.Intn(200), limit)
		before := slices.Clone(x)
		got, e := symbol.Starts(timing, x)
		wantSlice(t, timing, got, e, startsByDefinition(timing, x))
		for i := 1; i < len(got); i++ {
			if step := got[i] - got[i-1] - timing.Length; step < -1 || step > 1 {
				t.Fatal(timing, x, got, i)
			}
		}
		wantSame(t, "the samples", x, before)
	}
}

// P4.1: the errors of a timing come before those of the samples.
func TestStartsErrors(t *testing.T) {
	wantNone := func(length, threshold int, x []api.Gauss, want api.Errno) {
		t.Helper()
		timing := api.SymbolTiming{Length: length, Threshold: threshold}
		got, e := symbol.Starts(timing, x)
		wantNothing(t, timing, got, e, want)
	}
	tooMany := make([]api.Gauss, 401)
	for _, n := range append(badNumbers(2, 16), 0) {
		wantNone(n, 0, sevenSamples(), api.ErrRange)
		wantNone(n, 0, tooMany, api.ErrRange)
	}
	for _, n := range badNumbers(0, 1000000000000000) {
		wantNone(2, n, sevenSamples(), api.ErrRange)
		wantNone(3, n, sevenSamples(), api.ErrRange) // before the form
		wantNone(2, n, tooMany, api.ErrRange)
	}
	for _, n := range []int{3, 5, 7, 15} {
		wantNone(n, 0, sevenSamples(), api.ErrForm)
		wantNone(n, 0, tooMany, api.ErrForm)
	}
	for _, c := range badSamples() {
		wantNone(2, 0, c.value, c.want)
	}
}

// P4.7: energies and starts of turned samples.
func TestTurnedSamples(t *testing.T) {
	r := rand.New(rand.NewSource(3))
	for range 200 {
		x := randomSamples(r, r.Intn(100), []int{1, 9, 2000}[r.Intn(3)])
		length := 2 * between(r, 1, 8)
		timing := api.SymbolTiming{Length: length, Threshold: r.Intn(100)}
		energies, _ := symbol.Energies(x, length)
		starts, _ := symbol.Starts(timing, x)
		for quarters := 1; quarters <= 3; quarters++ {
			got, e := symbol.Energies(turned(x, quarters), length)
			wantSlice(t, x, got, e, energies)
			got, e = symbol.Starts(timing, turned(x, quarters))
			wantSlice(t, x, got, e, starts)
		}
	}
}
