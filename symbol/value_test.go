package symbol_test

import (
	"math"
	"math/rand"
	"slices"
	"testing"

	"cassegrain/api"
	"cassegrain/symbol"
)

// P4.2: example 3, rounding towards 0, and the greatest numbers.
func TestSoftOf(t *testing.T) {
	const most = 1000000000000000
	for _, c := range []struct {
		z    api.Gauss
		full int
		want [2]int
	}{
		{gauss(100, -51), 100, [2]int{7, -3}},
		{gauss(57, -57), 100, [2]int{3, -3}},
		{gauss(58, -58), 100, [2]int{4, -4}},
		{gauss(14, 15), 100, [2]int{0, 1}},
		{gauss(-14, -15), 100, [2]int{0, -1}},
		{gauss(99, -99), 100, [2]int{6, -6}},
		{gauss(101, -115), 100, [2]int{7, -7}},
		{gauss(1, -1), 1, [2]int{7, -7}},
		{gauss(1, -1), 7, [2]int{1, -1}},
		{gauss(1, -1), 8, [2]int{0, 0}},
		{gauss(0, 0), 100000, [2]int{0, 0}},
		{gauss(14285, 14286), 100000, [2]int{0, 1}},
		{gauss(-99999, 100000), 100000, [2]int{-6, 7}},
		{gauss(most, -most), 1, [2]int{7, -7}},
		{gauss(-most, most), 100000, [2]int{-7, 7}},
	} {
		if got, e := symbol.SoftOf(c.z, c.full); e != api.OK || got != c.want {
			t.Error(c, got, e)
		}
	}
	r := rand.New(rand.NewSource(4))
	for range 2000 {
		full := between(r, 1, []int{20, 100000}[r.Intn(2)])
		z := randomSamples(r, 1, full*5/4+1)[0]
		want := [2]int{softByDefinition(z.Re, full), softByDefinition(z.Im, full)}
		if got, e := symbol.SoftOf(z, full); e != api.OK || got != want {
			t.Fatal(z, full, got, e, want)
		}
	}
}

func TestSoftOfErrors(t *testing.T) {
	wantNone := func(z api.Gauss, full int) {
		t.Helper()
		got, e := symbol.SoftOf(z, full)
		wantError(t, z, e, api.ErrRange)
		if got != [2]int{} {
			t.Error(z, full, got)
		}
	}
	for _, n := range badNumbers(-1000000000000000, 1000000000000000) {
		wantNone(gauss(n, 1), 1)
		wantNone(gauss(1, n), 100000)
	}
	for _, full := range badNumbers(1, 100000) {
		wantNone(gauss(5, -5), full)
	}
}

// P4.2: hard values of all soft symbols.
func TestHardOf(t *testing.T) {
	soft := []int{-7, -6, -5, -4, -3, -2, -1, 0, 1, 2, 3, 4, 5, 6, 7}
	before := slices.Clone(soft)
	got, e := symbol.HardOf(soft)
	wantSlice(t, "all soft symbols", got, e, []int{1, 1, 1, 1, 1, 1, 1, api.SymbolUndecided, 0, 0, 0, 0, 0, 0, 0})
	clear(got)
	wantSame(t, "the argument", soft, before)
	got, e = symbol.HardOf(nil)
	wantSlice(t, "nothing", got, e, nil)
	got, e = symbol.HardOf(slices.Repeat([]int{3}, 600))
	wantSlice(t, "many", got, e, make([]int, 600))
	for _, c := range badSoft() {
		got, e := symbol.HardOf(c.value)
		wantNothing(t, c.value, got, e, c.want)
	}
}

// P4.2: stronger parts, and parts that are as strong.
func TestBestQuarter(t *testing.T) {
	for _, c := range []struct {
		x    []api.Gauss
		want int
	}{
		{nil, 0},
		{[]api.Gauss{gauss(0, 0)}, 0},
		{[]api.Gauss{gauss(3, 3)}, 0},
		{[]api.Gauss{gauss(3, -3)}, 0},
		{[]api.Gauss{gauss(-3, 2)}, 0},
		{[]api.Gauss{gauss(2, -3)}, 1},
		{[]api.Gauss{gauss(0, 1)}, 1},
		{[]api.Gauss{gauss(2, 1), gauss(0, 2)}, 1},
		{[]api.Gauss{gauss(2, 0), gauss(0, 1), gauss(0, -1), gauss(0, 1), gauss(0, -1)}, 0}, // squares, not sizes
		{[]api.Gauss{gauss(0, 2), gauss(1, 0), gauss(1, 0), gauss(-1, 0)}, 1},
		{append(slices.Repeat([]api.Gauss{gauss(0, 2000)}, 200), slices.Repeat([]api.Gauss{gauss(2000, 0)}, 200)...), 0},
		{append(slices.Repeat([]api.Gauss{gauss(0, 2000)}, 200), slices.Repeat([]api.Gauss{gauss(2000, 1)}, 200)...), 1},
	} {
		if got, e := symbol.BestQuarter(c.x); e != api.OK || got != c.want {
			t.Error(c.x, got, e)
		}
	}
	for _, c := range badSamples() {
		got, e := symbol.BestQuarter(c.value)
		wantError(t, c.value, e, c.want)
		if got != 0 {
			t.Error(c.value, got)
		}
	}
}

// P4.2: example 4, and all parts, whatever their size.
func TestQuadrantOf(t *testing.T) {
	const least, most = math.MinInt, math.MaxInt
	for z, want := range map[api.Gauss]int{
		gauss(1, 0): 0, gauss(0, 1): 1, gauss(-1, 0): 2, gauss(0, -1): 3,
		gauss(1, 1): 0, gauss(-1, 1): 1, gauss(-1, -1): 2, gauss(1, -1): 3,
		gauss(1, most): 0, gauss(most, 1): 0, gauss(most, most): 0, gauss(most, 0): 0,
		gauss(0, most): 1, gauss(-1, most): 1, gauss(least, most): 1, gauss(least, 1): 1,
		gauss(least, 0): 2, gauss(least, -1): 2, gauss(-1, least): 2, gauss(least, least): 2,
		gauss(0, least): 3, gauss(1, least): 3, gauss(most, least): 3, gauss(most, -1): 3,
	} {
		if got, e := symbol.QuadrantOf(z); e != api.OK || got != want {
			t.Error(z, got, e, want)
		}
	}
	if got, e := symbol.QuadrantOf(gauss(0, 0)); e != api.ErrZero || got != 0 {
		t.Error(got, e)
	}
}

// P4.2: quadrants by the definition. P4.7: the quadrant of a turned number is one greater.
func TestQuadrantByDefinition(t *testing.T) {
	r := rand.New(rand.NewSource(5))
	for range 2000 {
		z := randomSamples(r, 1, []int{1, 2, 2000, math.MaxInt / 4}[r.Intn(4)])[0]
		if z == (api.Gauss{}) {
			continue
		}
		want := quadrantByDefinition(z)
		if got, e := symbol.QuadrantOf(z); e != api.OK || got != want {
			t.Fatal(z, got, e, want)
		}
		for quarters := 1; quarters <= 3; quarters++ {
			if got, e := symbol.QuadrantOf(turned([]api.Gauss{z}, quarters)[0]); e != api.OK || got != (want+quarters)%4 {
				t.Fatal(z, quarters, got, e, want)
			}
		}
	}
}

// P4.2: example 4, and few quadrants.
func TestDifferences(t *testing.T) {
	for _, c := range []struct{ quadrants, want []int }{
		{[]int{3, 0, 2}, []int{1, 2}},
		{[]int{0, 3, 2, 0, 0}, []int{3, 3, 2, 0}},
		{[]int{1, 3, 1}, []int{2, 2}},
		{[]int{2}, nil},
		{[]int{}, nil},
		{nil, nil},
		{make([]int, 600), make([]int, 599)},
	} {
		got, e := symbol.Differences(c.quadrants)
		wantSlice(t, c.quadrants, got, e, c.want)
	}
	for _, c := range badQuadrants() {
		got, e := symbol.Differences(c.value)
		wantNothing(t, c.value, got, e, c.want)
	}
}

// P4.2: the quadrants of example 4, and the greatest number of differences.
func TestSummed(t *testing.T) {
	for _, c := range []struct {
		first             int
		differences, want []int
	}{
		{3, []int{1, 2}, []int{3, 0, 2}},
		{0, []int{3, 3, 2, 0}, []int{0, 3, 2, 0, 0}},
		{2, nil, []int{2}},
		{1, make([]int, 600), slices.Repeat([]int{1}, 601)},
	} {
		got, e := symbol.Summed(c.first, c.differences)
		wantSlice(t, c.differences, got, e, c.want)
	}
	for _, first := range badNumbers(0, 3) {
		for _, differences := range [][]int{nil, {1}, {4}, make([]int, 601)} { // before the differences
			got, e := symbol.Summed(first, differences)
			wantNothing(t, first, got, e, api.ErrRange)
		}
	}
	for _, c := range badQuadrants() {
		got, e := symbol.Summed(3, c.value)
		wantNothing(t, c.value, got, e, c.want)
	}
}

// P4.7: quadrants to which the same number is added have the same differences. P4.8: Summed gives the quadrants back.
func TestDifferencesAndBack(t *testing.T) {
	r := rand.New(rand.NewSource(6))
	for range 300 {
		quadrants := numbers(r, between(r, 1, 100), 0, 3)
		before := slices.Clone(quadrants)
		differences, e := symbol.Differences(quadrants)
		wantError(t, quadrants, e, api.OK)
		for i, d := range differences {
			if d < 0 || d > 3 || (quadrants[i]+d)%4 != quadrants[i+1] {
				t.Fatal(quadrants, differences, i)
			}
		}
		kept := slices.Clone(differences)
		back, e := symbol.Summed(quadrants[0], differences)
		wantSlice(t, quadrants, back, e, quadrants)
		clear(back)
		wantSame(t, "the differences", differences, kept)
		wantSame(t, "the quadrants", quadrants, before)
		for added := 1; added <= 3; added++ {
			moved := slices.Clone(quadrants)
			for i := range moved {
				moved[i] = (moved[i] + added) % 4
			}
			got, e := symbol.Differences(moved)
			wantSlice(t, moved, got, e, differences)
		}
	}
}
