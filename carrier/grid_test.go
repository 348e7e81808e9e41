package carrier_test

import (
	"math/rand"
	"slices"
	"testing"

	"cassegrain/api"
	"cassegrain/carrier"
)

// fives are the samples of the chapter's example 4.
func fives() []api.Gauss {
	return []api.Gauss{gauss(5, 0), gauss(0, 5), gauss(-5, 0), gauss(0, -5)}
}

// P3.3: the number of hypotheses, up to the limit.
func TestCheckGrid(t *testing.T) {
	for _, c := range []struct {
		g    api.CarrierGrid
		want int
	}{
		{goodGrid(), 3},
		{api.CarrierGrid{Step: 1}, 1},
		{api.CarrierGrid{Frequencies: span(-1024, 1023), Step: 1024}, 2},
		{api.CarrierGrid{Frequencies: span(0, 7), Step: 2048, Rates: span(-1, 1)}, 3},
		{api.CarrierGrid{Frequencies: span(-2048, 2047), Step: 2048, Rates: span(-64, 64)}, 258},
		{api.CarrierGrid{Frequencies: span(0, 299), Step: 1}, 300},
		{api.CarrierGrid{Frequencies: span(0, 1499), Step: 5}, 300},
		{api.CarrierGrid{Frequencies: span(2, 4), Step: 1, Rates: span(-50, 49)}, 300},
	} {
		if n, e := carrier.CheckGrid(c.g); e != api.OK || n != c.want {
			t.Error(c, n, e)
		}
	}
	for _, c := range badGrids() {
		n, e := carrier.CheckGrid(c.value)
		wantError(t, c.value, e, c.want)
		if n != 0 {
			t.Error(c.value, n)
		}
	}
	r := rand.New(rand.NewSource(7))
	for range 300 {
		g := randomGrid(r)
		if n, e := carrier.CheckGrid(g); e != api.OK || n != len(gridByDefinition(g)) {
			t.Fatal(g, n, e)
		}
	}
}

// P3.3: example 4, and the first of several hypotheses with the same power.
func TestSearch(t *testing.T) {
	for _, c := range []struct {
		g    api.CarrierGrid
		x    []api.Gauss
		want api.CarrierHypothesis
		most int
	}{
		{goodGrid(), fives(), tone(1024), 400},
		{goodGrid(), make([]api.Gauss, 9), tone(-1024), 0},
		{goodGrid(), []api.Gauss{gauss(-3, 4)}, tone(-1024), 25},
		{api.CarrierGrid{Frequencies: span(0, 3), Step: 3, Rates: span(-2, 5)}, []api.Gauss{gauss(1, 1)}, api.CarrierHypothesis{Rate: -2}, 2},
		{api.CarrierGrid{Frequencies: span(-3, 3), Step: 1, Rates: span(1, 1)}, []api.Gauss{gauss(1, 1), gauss(1, 0)}, api.CarrierHypothesis{Frequency: -3, Rate: 1}, 5},
		{api.CarrierGrid{Frequencies: span(-3, 3), Step: 1, Rates: span(1, 1)}, []api.Gauss{gauss(1, -1), gauss(1, 0)}, api.CarrierHypothesis{Frequency: 0, Rate: 1}, 5},
		{api.CarrierGrid{Step: 1}, slices.Repeat([]api.Gauss{gauss(2000, -2000)}, 200), tone(0), 320000000000},
		{api.CarrierGrid{Frequencies: span(1000, 2000), Step: 12}, fives(), api.CarrierHypothesis{Frequency: 1024}, 400},
	} {
		if h, most, e := carrier.Search(c.g, c.x); e != api.OK || h != c.want || most != c.most {
			t.Error(c, h, most, e)
		}
	}
}

// P3.3: searches by the definition, also for carriers within the grid.
func TestSearchByDefinition(t *testing.T) {
	r := rand.New(rand.NewSource(8))
	for range 150 {
		g := randomGrid(r)
		x := randomSamples(r, between(r, 1, 20), 2)
		if l := gridByDefinition(g); r.Intn(2) == 0 {
			x = replicaByDefinition(l[r.Intn(len(l))], between(r, 1, 60))
		}
		before := slices.Clone(x)
		want, most := searchByDefinition(g, x)
		if h, n, e := carrier.Search(g, x); e != api.OK || h != want || n != most {
			t.Fatal(g, x, h, n, e, want, most)
		}
		wantSame(t, "the samples", x, before)
	}
}

// P3.3: the errors of grids come before those of samples.
func TestSearchErrors(t *testing.T) {
	wantNone := func(g api.CarrierGrid, x []api.Gauss, want api.Errno) {
		t.Helper()
		h, n, e := carrier.Search(g, x)
		wantError(t, g, e, want)
		if h != (api.CarrierHypothesis{}) || n != 0 {
			t.Error(g, len(x), h, n)
		}
	}
	for _, c := range badGrids() {
		wantNone(c.value, fives(), c.want)
		for _, x := range badSamples() {
			wantNone(c.value, x.value, c.want)
		}
	}
	for _, c := range badSamples() {
		wantNone(goodGrid(), c.value, c.want)
	}
}

// P3.3: example 4, nothing found, and lowest terms.
func TestShareFound(t *testing.T) {
	share := func(num, den int) api.Frac { return api.Frac{Num: num, Den: den} }
	for _, c := range []struct {
		g    api.CarrierGrid
		h    api.CarrierHypothesis
		n    int
		want api.Frac
	}{
		{goodGrid(), tone(512), 4, share(1, 2)},
		{goodGrid(), tone(512), 2, share(1, 1)},
		{goodGrid(), tone(512), 3, share(5, 9)},
		{goodGrid(), tone(1024), 200, share(1, 1)},
		{api.CarrierGrid{Step: 1}, tone(1024), 4, share(0, 1)},
		{api.CarrierGrid{Step: 1}, tone(1024), 5, share(1, 25)},
		{api.CarrierGrid{Step: 1}, tone(1024), 6, share(1, 18)},
		{api.CarrierGrid{Step: 1}, tone(-1024), 199, share(1, 39601)},
		{api.CarrierGrid{Step: 1}, tone(0), 1, share(1, 1)},
	} {
		if got, e := carrier.ShareFound(c.g, c.h, c.n); e != api.OK || got != c.want {
			t.Error(c, got, e)
		}
	}
}

// P3.3, P3.9: shares by the definition, from 0 to 1.
func TestShareByDefinition(t *testing.T) {
	r := rand.New(rand.NewSource(9))
	for range 150 {
		g, h, n := randomGrid(r), randomHypothesis(r), between(r, 1, 60)
		_, most := searchByDefinition(g, replicaByDefinition(h, n))
		got, e := carrier.ShareFound(g, h, n)
		if e != api.OK || got.Num*n*n != most*got.Den || got.Num < 0 || got.Den < 1 || got.Num > got.Den {
			t.Fatal(g, h, n, got, e, most)
		}
		for d := 2; d <= got.Den; d++ {
			if got.Num%d == 0 && got.Den%d == 0 {
				t.Fatal(g, h, n, got, d)
			}
		}
	}
}

// P3.9: the share is 1 if the quarters are those of the grid, plus a constant number.
func TestShareOfGrid(t *testing.T) {
	r := rand.New(rand.NewSource(10))
	for range 150 {
		g, n := randomGrid(r), between(r, 1, 200)
		l := gridByDefinition(g)
		h := l[r.Intn(len(l))]
		h.Start = 1024 * r.Intn(4)
		if got, e := carrier.ShareFound(g, h, n); e != api.OK || got != (api.Frac{Num: 1, Den: 1}) {
			t.Fatal(g, h, n, got, e)
		}
	}
}

// P3.3: the errors of a grid, a hypothesis, and a number of samples.
func TestShareFoundErrors(t *testing.T) {
	wantNone := func(g api.CarrierGrid, h api.CarrierHypothesis, n int, want api.Errno) {
		t.Helper()
		got, e := carrier.ShareFound(g, h, n)
		wantError(t, g, e, want)
		if got != (api.Frac{}) {
			t.Error(g, h, n, got)
		}
	}
	for _, c := range badGrids() {
		wantNone(c.value, tone(0), 4, c.want)
		wantNone(c.value, tone(2048), 4, c.want)
		wantNone(c.value, tone(0), 201, c.want)
	}
	for _, h := range badHypotheses() {
		wantNone(goodGrid(), h, 4, api.ErrRange)
	}
	for _, n := range badNumbers(1, 200) {
		wantNone(goodGrid(), tone(0), n, api.ErrRange)
	}
}

// P3.10: powers and searches of turned samples.
func TestTurnedSamples(t *testing.T) {
	r := rand.New(rand.NewSource(11))
	for range 100 {
		g, x := randomGrid(r), randomSamples(r, between(r, 1, 200), []int{1, 5, 2000}[r.Intn(3)])
		turned := make([]api.Gauss, len(x))
		for n := range x {
			turned[n] = times(x[n], gauss(0, 1))
		}
		h, most, _ := carrier.Search(g, x)
		if again, same, e := carrier.Search(g, turned); e != api.OK || again != h || same != most {
			t.Fatal(g, x, h, most, again, same, e)
		}
		any := randomHypothesis(r)
		a, _ := carrier.CorrelationOf(any, x)
		if b, e := carrier.CorrelationOf(any, turned); e != api.OK || b != times(a, gauss(0, 1)) {
			t.Fatal(any, x, a, b, e)
		}
	}
}
