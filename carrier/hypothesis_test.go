package carrier_test

import (
	"math"
	"math/rand"
	"slices"
	"strings"
	"testing"

	"cassegrain/api"
	"cassegrain/carrier"
)

// tone returns a hypothesis with the phase 0 at the first sample, and the rate 0.
func tone(frequency int) api.CarrierHypothesis {
	return api.CarrierHypothesis{Frequency: frequency}
}

// P3.2: the limits of hypotheses.
func TestCheckHypothesis(t *testing.T) {
	for _, h := range badHypotheses() {
		wantError(t, h, carrier.CheckHypothesis(h), api.ErrRange)
	}
	for _, h := range []api.CarrierHypothesis{
		{}, {Start: 4095, Frequency: 2047, Rate: 64}, {Frequency: -2048, Rate: -64},
	} {
		wantError(t, h, carrier.CheckHypothesis(h), api.OK)
	}
	wantError(t, "example 3", carrier.CheckHypothesis(api.CarrierHypothesis{Rate: 1024}), api.ErrRange)
}

// P3.2: example 1, the phases of example 3, and the borders between quarters.
func TestReplica(t *testing.T) {
	one, i, minus, back := gauss(1, 0), gauss(0, 1), gauss(-1, 0), gauss(0, -1)
	for _, c := range []struct {
		h    api.CarrierHypothesis
		want []api.Gauss
	}{
		{tone(1024), []api.Gauss{one, i, minus, back}},
		{tone(512), []api.Gauss{one, one, i, i, minus, minus, back, back}},
		{tone(-1024), []api.Gauss{one, back, minus, i}},
		{tone(-1), []api.Gauss{one, back}},
		{tone(-2048), []api.Gauss{one, minus, one}},
		{tone(0), []api.Gauss{one}},
		{api.CarrierHypothesis{Start: 1023, Frequency: 1}, []api.Gauss{one, i}},
		{api.CarrierHypothesis{Start: 2047, Frequency: 1}, []api.Gauss{i, minus}},
		{api.CarrierHypothesis{Start: 3071, Frequency: 1}, []api.Gauss{minus, back}},
		{api.CarrierHypothesis{Start: 4095, Frequency: 1}, []api.Gauss{back, one}},
		{api.CarrierHypothesis{Start: 832, Rate: 64}, []api.Gauss{one, one, one, i, i, i, i, minus}},           // 832, 832, 896, 1024, 1216, 1472, 1792, 2176
		{api.CarrierHypothesis{Start: 192, Rate: -64}, []api.Gauss{one, one, one, one, back, back, back}},      // 192, 192, 128, 0, -192, -448, -768
		{api.CarrierHypothesis{Start: 960, Rate: 64}, []api.Gauss{one, one, i, i, i}},                          // 960, 960, 1024, 1152, 1344
		{api.CarrierHypothesis{Frequency: 1000, Rate: 24}, []api.Gauss{one, one, i, back, one, i, minus}},      // 0, 1000, 2024, 3072, 4144, 5240, 6360
		{api.CarrierHypothesis{Start: 1, Frequency: -1, Rate: -1}, []api.Gauss{one, one, back, back}},          // 1, 0, -2, -5
		{api.CarrierHypothesis{Start: 4095, Frequency: 2047, Rate: 64}, []api.Gauss{back, i, one, minus, one}}, // 4095, 6142, 8253, 10428, 12667
	} {
		got, e := carrier.Replica(c.h, len(c.want))
		wantError(t, c.h, e, api.OK)
		wantSame(t, c.h, got, c.want)
	}
}

// P3.2: replicas and correlations by their definitions.
func TestCorrelationsByDefinition(t *testing.T) {
	r := rand.New(rand.NewSource(3))
	for range 300 {
		h, n := randomHypothesis(r), between(r, 1, 200)
		replica, e := carrier.Replica(h, n)
		wantError(t, h, e, api.OK)
		wantSame(t, h, replica, replicaByDefinition(h, n))
		if g, e := carrier.CorrelationOf(h, replica); e != api.OK || g != gauss(n, 0) {
			t.Fatal(h, n, g, e)
		}
		x := randomSamples(r, n, 2000)
		before := slices.Clone(x)
		if g, e := carrier.CorrelationOf(h, x); e != api.OK || g != correlationByDefinition(h, x) {
			t.Fatal(h, x, g, e)
		}
		wantSame(t, "the samples", x, before)
	}
}

// P3.2: examples 1 and 4, and the greatest correlation.
func TestCorrelationOf(t *testing.T) {
	for _, c := range []struct {
		h    api.CarrierHypothesis
		x    []api.Gauss
		want api.Gauss
	}{
		{tone(1024), replicaByDefinition(tone(1024), 4), gauss(4, 0)},
		{tone(0), replicaByDefinition(tone(1024), 4), gauss(0, 0)},
		{tone(0), replicaByDefinition(tone(512), 4), gauss(2, 2)},
		{tone(1024), []api.Gauss{gauss(3, 4), gauss(3, 4)}, gauss(7, 1)},
		{tone(-1024), []api.Gauss{gauss(3, 4), gauss(3, 4)}, gauss(-1, 7)},
		{api.CarrierHypothesis{Start: 1024}, []api.Gauss{gauss(3, 4)}, gauss(4, -3)},
		{tone(0), slices.Repeat([]api.Gauss{gauss(2000, -2000)}, 200), gauss(400000, -400000)},
		{tone(0), slices.Repeat([]api.Gauss{gauss(-1999, 1997)}, 199), gauss(-397801, 397403)},
	} {
		if g, e := carrier.CorrelationOf(c.h, c.x); e != api.OK || g != c.want {
			t.Error(c, g, e)
		}
	}
}

// P3.2: the errors of hypotheses, numbers of samples, and samples.
func TestHypothesisErrors(t *testing.T) {
	wantNone := func(h api.CarrierHypothesis, n int) {
		t.Helper()
		replica, e := carrier.Replica(h, n)
		wantError(t, h, e, api.ErrRange)
		wantSame(t, n, replica, nil)
	}
	for _, h := range badHypotheses() {
		wantNone(h, 4)
		g, e := carrier.CorrelationOf(h, make([]api.Gauss, 4))
		wantError(t, h, e, api.ErrRange)
		if g != (api.Gauss{}) {
			t.Error(h, g)
		}
		_, e = carrier.CorrelationOf(h, nil) // the hypothesis comes first
		wantError(t, h, e, api.ErrRange)
	}
	for _, n := range badNumbers(1, 200) {
		wantNone(tone(3), n)
	}
	for _, c := range badSamples() {
		g, e := carrier.CorrelationOf(tone(0), c.value)
		wantError(t, len(c.value), e, c.want)
		if g != (api.Gauss{}) {
			t.Error(len(c.value), g)
		}
	}
	for _, n := range []int{1, 200} {
		if replica, e := carrier.Replica(tone(3), n); e != api.OK || len(replica) != n {
			t.Error(n, replica, e)
		}
	}
}

// P3.3: example 2, and the direction of the counts.
func TestCountsBetween(t *testing.T) {
	for _, c := range []struct {
		a, b api.CarrierHypothesis
		n    int
		want [4]int
	}{
		{tone(512), tone(1024), 4, [4]int{1, 2, 1, 0}},
		{tone(1024), tone(512), 4, [4]int{1, 0, 1, 2}},
		{tone(512), tone(-1024), 4, [4]int{2, 1, 0, 1}},
		{tone(7), tone(7), 200, [4]int{200, 0, 0, 0}},
		{api.CarrierHypothesis{Start: 3072}, tone(0), 1, [4]int{0, 1, 0, 0}},
		{tone(0), api.CarrierHypothesis{Start: 3072}, 5, [4]int{0, 0, 0, 5}},
	} {
		if counts, e := carrier.CountsBetween(c.a, c.b, c.n); e != api.OK || counts != c.want {
			t.Error(c, counts, e)
		}
	}
	r := rand.New(rand.NewSource(4))
	for range 300 {
		a, b, n := randomHypothesis(r), randomHypothesis(r), between(r, 1, 200)
		var want [4]int
		first, second := quartersByDefinition(a, n), quartersByDefinition(b, n)
		for at := range n {
			want[(second[at]-first[at]+4)%4]++
		}
		if counts, e := carrier.CountsBetween(a, b, n); e != api.OK || counts != want {
			t.Fatal(a, b, n, counts, e, want)
		}
	}
}

func TestCountsBetweenErrors(t *testing.T) {
	wantNone := func(a, b api.CarrierHypothesis, n int) {
		t.Helper()
		counts, e := carrier.CountsBetween(a, b, n)
		wantError(t, n, e, api.ErrRange)
		if counts != [4]int{} {
			t.Error(a, b, n, counts)
		}
	}
	for _, h := range badHypotheses() {
		wantNone(h, tone(0), 4)
		wantNone(tone(0), h, 4)
	}
	for _, n := range badNumbers(1, 200) {
		wantNone(tone(0), tone(0), n)
	}
}

// P3.9: the power of a replica's correlation follows from the counts.
func TestPowerFromCounts(t *testing.T) {
	r := rand.New(rand.NewSource(5))
	for range 300 {
		a, b, n := randomHypothesis(r), randomHypothesis(r), between(r, 1, 200)
		if r.Intn(2) == 0 {
			b = api.CarrierHypothesis{Start: r.Intn(4096), Frequency: min(a.Frequency+r.Intn(20), 2047), Rate: a.Rate}
		}
		x, _ := carrier.Replica(a, n)
		g, _ := carrier.CorrelationOf(b, x)
		counts, e := carrier.CountsBetween(a, b, n)
		even, odd := counts[0]-counts[2], counts[1]-counts[3]
		if e != api.OK || norm(g) != even*even+odd*odd {
			t.Fatal(a, b, n, g, counts, e)
		}
	}
}

// P3.8: strings of hypotheses, also of those that are not valid.
func TestFormatHypothesis(t *testing.T) {
	for want, h := range map[string]api.CarrierHypothesis{
		"0 1024 0":       tone(1024),
		"1 2 3":          {Start: 1, Frequency: 2, Rate: 3},
		"4095 -2048 -64": {Start: 4095, Frequency: -2048, Rate: -64},
		"-5 9223372036854775807 -9223372036854775808": {Start: -5, Frequency: math.MaxInt, Rate: math.MinInt},
	} {
		if s := carrier.FormatHypothesis(h); s != want {
			t.Errorf("%q, want %q", s, want)
		}
	}
}

// P3.8: strings that are no hypotheses.
func TestParseHypothesisErrors(t *testing.T) {
	for s, want := range map[string]api.Errno{
		"":                       api.ErrSyntax,
		"0 1024":                 api.ErrSyntax,
		"0 1024 0 0":             api.ErrSyntax,
		"0 1024 0 ":              api.ErrSyntax,
		" 0 1024 0":              api.ErrSyntax,
		"0  1024 0":              api.ErrSyntax,
		"0 1024  0":              api.ErrSyntax,
		"0\t1024\t0":             api.ErrSyntax,
		"0 1024 0\n":             api.ErrSyntax,
		"-1 0 0":                 api.ErrSyntax,
		"-0 0 0":                 api.ErrSyntax,
		"0 -0 0":                 api.ErrSyntax,
		"0 0 -0":                 api.ErrSyntax,
		"+1 0 0":                 api.ErrSyntax,
		"0 +1 0":                 api.ErrSyntax,
		"0 0 +1":                 api.ErrSyntax,
		"01 0 0":                 api.ErrSyntax,
		"0 01 0":                 api.ErrSyntax,
		"0 0 -01":                api.ErrSyntax,
		"10000 0 0":              api.ErrSyntax,
		"0 10000 0":              api.ErrSyntax,
		"0 -10000 0":             api.ErrSyntax,
		"0 0 00001":              api.ErrSyntax,
		"0 0 10000":              api.ErrSyntax,
		"0 - 0":                  api.ErrSyntax,
		"0 --1 0":                api.ErrSyntax,
		"a 0 0":                  api.ErrSyntax,
		"0 1e3 0":                api.ErrSyntax,
		"0 0 ٣":                  api.ErrSyntax,
		strings.Repeat("1 ", 99): api.ErrSyntax,
		"9999 0 x":               api.ErrSyntax, // before the error of the hypothesis
		"4096 0 0":               api.ErrRange,
		"9999 0 0":               api.ErrRange,
		"0 2048 0":               api.ErrRange,
		"0 -2049 0":              api.ErrRange,
		"0 -9999 0":              api.ErrRange,
		"0 0 65":                 api.ErrRange,
		"0 0 -65":                api.ErrRange,
	} {
		h, e := carrier.ParseHypothesis(s)
		wantError(t, s, e, want)
		if h != (api.CarrierHypothesis{}) {
			t.Errorf("%q: %v", s, h)
		}
	}
}

// P3.8, P3.15: example 10, and the strings of valid hypotheses.
func TestHypothesisReversed(t *testing.T) {
	if h, e := carrier.ParseHypothesis("0 1024 0"); e != api.OK || h != tone(1024) {
		t.Error(h, e)
	}
	if h, e := carrier.ParseHypothesis("4095 -2048 -64"); e != api.OK || h != (api.CarrierHypothesis{Start: 4095, Frequency: -2048, Rate: -64}) {
		t.Error(h, e)
	}
	r := rand.New(rand.NewSource(6))
	for range 500 {
		h := randomHypothesis(r)
		if back, e := carrier.ParseHypothesis(carrier.FormatHypothesis(h)); e != api.OK || back != h {
			t.Fatal(h, back, e)
		}
	}
}
