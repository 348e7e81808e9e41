package sample_test

import (
	"math/rand"
	"slices"
	"testing"

	"cassegrain/api"
	"cassegrain/sample"
)

// mean returns the filter of the chapter's example 6.
func mean() api.SampleFilter {
	return filter(2, 1, 1)
}

// P2.6: the limits of filters, and the order of the errors.
func TestCheckFilter(t *testing.T) {
	for _, c := range badFilters() {
		wantError(t, c.f, sample.CheckFilter(c.f), c.want)
	}
	for _, f := range []api.SampleFilter{
		mean(), filter(1, 1), filter(100, 0), filter(1, 100, -100), filter(1, 1, 2, 3, 4, 5, 6, 7, 8),
	} {
		wantError(t, f, sample.CheckFilter(f), api.OK)
	}
}

// P2.6: example 6, and the edge cases.
func TestFiltered(t *testing.T) {
	x := []api.Gauss{gauss(3, 0), gauss(4, 1), gauss(-2, 0)}
	for _, c := range []struct {
		f       api.SampleFilter
		x, want []api.Gauss
	}{
		{mean(), x, []api.Gauss{gauss(1, 0), gauss(3, 0), gauss(1, 0)}},
		{filter(1, 1), x, x},
		{filter(1, 1, 1), x, []api.Gauss{gauss(3, 0), gauss(7, 1), gauss(2, 1)}},
		{filter(1, 0, 1), x, []api.Gauss{gauss(0, 0), gauss(3, 0), gauss(4, 1)}},
		{filter(1, 1, 2, 3, 4, 5), reals(1, 10), reals(1, 12)}, // more coefficients than samples
		{filter(2, -1), []api.Gauss{gauss(3, -3), gauss(-4, 1)}, []api.Gauss{gauss(-2, 1), gauss(2, -1)}},
		{filter(100, 1), []api.Gauss{gauss(-1, 99), gauss(-100, 100), gauss(-101, 199)}, []api.Gauss{gauss(-1, 0), gauss(-1, 1), gauss(-2, 1)}},
		{filter(1, 100, 100), reals(2000, 2000), reals(200000, 400000)}, // greater than samples
		{mean(), nil, nil},
	} {
		got, e := sample.Filtered(c.f, c.x)
		wantError(t, c.f, e, api.OK)
		wantSame(t, c.f, got, c.want)
	}
}

// P2.6: all outputs, and those that are kept, by the definition.
func TestFilteredRandom(t *testing.T) {
	r := rand.New(rand.NewSource(10))
	for range 100 {
		f, x := randomFilter(r, 8, 100, 100), randomSamples(r, r.Intn(60), 2000)
		by := between(r, 1, 9)
		var all, kept []api.Gauss
		for n := range x {
			all = append(all, outputByDefinition(f, x, n))
			if n%by == 0 {
				kept = append(kept, all[n])
			}
		}
		got, e := sample.Filtered(f, x)
		wantError(t, f, e, api.OK)
		wantSame(t, f, got, all)
		got, e = sample.Decimated(f, x, by)
		wantError(t, f, e, api.OK)
		wantSame(t, f, got, kept)
	}
}

// P2.6: numbers by which is decimated.
func TestDecimated(t *testing.T) {
	x := make([]api.Gauss, 400)
	for i := range x {
		x[i].Re = i
	}
	for by, want := range map[int][]api.Gauss{1: x, 399: reals(0, 399), 400: reals(0), 150: reals(0, 150, 300)} {
		got, e := sample.Decimated(filter(1, 1), x, by)
		wantError(t, by, e, api.OK)
		wantSame(t, by, got, want)
	}
	got, e := sample.Decimated(mean(), nil, 400)
	wantError(t, "no samples", e, api.OK)
	wantSame(t, "no samples", got, nil)
}

func TestFilteredErrors(t *testing.T) {
	wantFilteredError := func(f api.SampleFilter, x []api.Gauss, by int, want api.Errno) {
		t.Helper()
		got, e := sample.Decimated(f, x, by)
		wantError(t, f, e, want)
		if want != api.OK && len(got) != 0 {
			t.Error(f, by, got)
		}
		if by != 1 {
			return
		}
		got, e = sample.Filtered(f, x)
		wantError(t, f, e, want)
		if want != api.OK && len(got) != 0 {
			t.Error(f, got)
		}
	}
	for _, c := range badFilters() {
		for _, by := range []int{0, 1} {
			wantFilteredError(c.f, []api.Gauss{badSample}, by, c.want)
			wantFilteredError(c.f, make([]api.Gauss, 401), by, c.want)
		}
	}
	for _, c := range badSamples() {
		wantFilteredError(mean(), c.x, 1, c.want)
		if c.want != api.OK {
			wantFilteredError(mean(), c.x, 0, c.want)
		}
	}
	for _, by := range badNumbers(1, 400) {
		wantFilteredError(mean(), reals(1, 2), by, api.ErrRange)
		wantFilteredError(mean(), nil, by, api.ErrRange)
	}
}

// P2.6: example 7, and products within the limits and beyond them.
func TestComposed(t *testing.T) {
	ones := func(n int) api.SampleFilter { return filter(1, slices.Repeat([]int{1}, n)...) }
	for _, c := range []struct {
		f, g, want api.SampleFilter
		e          api.Errno
	}{
		{mean(), filter(1, 1, -1), filter(2, 1, 0, -1), api.OK},
		{filter(3, 2), filter(5, -7), filter(15, -14), api.OK},
		{filter(1, 1, 2, 3), filter(1, 4, 5), filter(1, 4, 13, 22, 15), api.OK},
		{ones(4), ones(5), filter(1, 1, 2, 3, 4, 4, 3, 2, 1), api.OK},
		{ones(1), ones(8), ones(8), api.OK},
		{ones(5), ones(5), api.SampleFilter{}, api.ErrLarge},
		{ones(2), ones(8), api.SampleFilter{}, api.ErrLarge},
		{ones(8), ones(8), api.SampleFilter{}, api.ErrLarge},
		{filter(1, 10), filter(1, 10), filter(1, 100), api.OK},
		{filter(1, 10), filter(1, -10), filter(1, -100), api.OK},
		{filter(1, 1, 50), filter(1, 1, 51), api.SampleFilter{}, api.ErrLarge},
		{filter(1, 1, 1), filter(1, 51, 50), api.SampleFilter{}, api.ErrLarge},
		{filter(1, 1, 1), filter(1, -51, -50), api.SampleFilter{}, api.ErrLarge},
		{filter(1, 100), filter(1, 100), api.SampleFilter{}, api.ErrLarge},
		{filter(10, 1), filter(10, 1), filter(100, 1), api.OK},
		{filter(10, 1), filter(11, 1), api.SampleFilter{}, api.ErrLarge},
		{filter(100, 1), filter(100, 1), api.SampleFilter{}, api.ErrLarge},
	} {
		if h, e := sample.Composed(c.f, c.g); e != c.e || !sameFilter(h, c.want) {
			t.Error(c, h, e)
		}
	}
}

func TestComposedErrors(t *testing.T) {
	for _, c := range badFilters() {
		for _, pair := range [][2]api.SampleFilter{{c.f, mean()}, {mean(), c.f}, {c.f, filter(0)}, {filter(100, 100, 100), c.f}} {
			h, e := sample.Composed(pair[0], pair[1])
			wantError(t, pair, e, c.want)
			if !sameFilter(h, api.SampleFilter{}) {
				t.Error(pair, h)
			}
		}
	}
}

// P2.7: the responses of example 7, and those by the definition.
func TestResponseAt(t *testing.T) {
	for quarter, want := range []api.Gauss{gauss(2, 0), gauss(1, -1), gauss(0, 0), gauss(1, 1)} {
		if g, e := sample.ResponseAt(mean(), quarter); e != api.OK || g != want {
			t.Error(quarter, g, e)
		}
	}
	r := rand.New(rand.NewSource(11))
	for range 200 {
		f := randomFilter(r, 8, 100, 100)
		for quarter := range 4 {
			g, e := sample.ResponseAt(f, quarter)
			if want := binByDefinition(reals(f.Coefficients...), quarter); e != api.OK || g != want {
				t.Fatal(f, quarter, g, e, want)
			}
		}
	}
}

func TestResponseAtErrors(t *testing.T) {
	for _, c := range badFilters() {
		for _, quarter := range []int{0, 4} {
			g, e := sample.ResponseAt(c.f, quarter)
			wantError(t, c.f, e, c.want)
			if g != (api.Gauss{}) {
				t.Error(c.f, g)
			}
		}
	}
	for _, quarter := range badNumbers(0, 3) {
		g, e := sample.ResponseAt(mean(), quarter)
		wantError(t, quarter, e, api.ErrRange)
		if g != (api.Gauss{}) {
			t.Error(quarter, g)
		}
	}
}

// P2.12: one filter after another is the composed one.
func TestComposedFilters(t *testing.T) {
	r := rand.New(rand.NewSource(12))
	for range 200 {
		f, g := randomFilter(r, 4, 5, 1), randomFilter(r, 4, 5, 1)
		x := randomSamples(r, r.Intn(40), 90)
		h, e := sample.Composed(f, g)
		wantError(t, f, e, api.OK)
		once, _ := sample.Filtered(f, x)
		twice, e := sample.Filtered(g, once)
		wantError(t, f, e, api.OK)
		got, e := sample.Filtered(h, x)
		wantError(t, f, e, api.OK)
		wantSame(t, f, got, twice)
		for quarter := range 4 {
			a, _ := sample.ResponseAt(f, quarter)
			b, _ := sample.ResponseAt(g, quarter)
			if c, e := sample.ResponseAt(h, quarter); e != api.OK || c != times(a, b) {
				t.Fatal(f, g, quarter, c, e)
			}
		}
	}
}

// P2.12: samples that begin later give outputs that begin later.
func TestLaterStart(t *testing.T) {
	r := rand.New(rand.NewSource(13))
	for range 100 {
		f, x := randomFilter(r, 8, 100, 100), randomSamples(r, r.Intn(40), 2000)
		zeros := make([]api.Gauss, r.Intn(12))
		y, _ := sample.Filtered(f, x)
		later, e := sample.Filtered(f, slices.Concat(zeros, x))
		wantError(t, f, e, api.OK)
		wantSame(t, f, later, slices.Concat(zeros, y))
	}
}

// R3: filters and samples stay as they were, and results are memory of their own.
func TestFiltersKept(t *testing.T) {
	one, f, x := filter(1, 1), filter(1, 4, 5, 6), reals(1, 2, 3)
	y, _ := sample.Filtered(one, x)
	clear(y)
	y, _ = sample.Decimated(one, x, 1)
	clear(y)
	wantSame(t, "samples", x, reals(1, 2, 3))
	for _, pair := range [][2]api.SampleFilter{{one, f}, {f, one}} {
		h, _ := sample.Composed(pair[0], pair[1])
		clear(h.Coefficients)
	}
	if !sameFilter(one, filter(1, 1)) || !sameFilter(f, filter(1, 4, 5, 6)) {
		t.Error(one, f)
	}
}
