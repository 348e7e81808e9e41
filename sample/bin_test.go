package sample_test

import (
	"math"
	"math/rand"
	"slices"
	"testing"

	"cassegrain/api"
	"cassegrain/sample"
)

// P2.3: samples with a part of the maximum size.
func TestSaturatedAt(t *testing.T) {
	x := []api.Gauss{
		gauss(2000, 0), gauss(1999, 1999), gauss(-2000, 5), gauss(-1999, -1999), gauss(5, 2000), gauss(0, -2000),
		gauss(0, 0), gauss(-2000, 2000), gauss(1414, 1414),
	}
	got, e := sample.SaturatedAt(x)
	wantError(t, "some", e, api.OK)
	wantSame(t, "some", got, []int{0, 2, 4, 5, 7})
	got, e = sample.SaturatedAt([]api.Gauss{gauss(2000, 0), badSample})
	wantError(t, "one beyond", e, api.ErrRange)
	wantSame(t, "one beyond", got, nil)
	for _, c := range badSamples() {
		got, e := sample.SaturatedAt(c.x)
		wantError(t, len(c.x), e, c.want)
		if c.want != api.OK {
			wantSame(t, len(c.x), got, nil)
		}
	}
	got, e = sample.SaturatedAt(nil)
	wantError(t, "none", e, api.OK)
	wantSame(t, "none", got, nil)
}

// P2.7: example 8, no samples, and bins by the definition.
func TestBins(t *testing.T) {
	want := [4]api.Gauss{gauss(10, 0), gauss(-2, 2), gauss(-2, 0), gauss(-2, -2)}
	if s, e := sample.BinsOf(reals(1, 2, 3, 4)); e != api.OK || s != want {
		t.Error(s, e)
	}
	if s, e := sample.BinsOf(nil); e != api.OK || s != [4]api.Gauss{} {
		t.Error(s, e)
	}
	r := rand.New(rand.NewSource(14))
	for i := range 200 {
		x := randomSamples(r, r.Intn(20), 2000)
		if i == 0 {
			x = slices.Repeat([]api.Gauss{gauss(2000, -2000)}, 400)
		}
		s, e := sample.BinsOf(x)
		wantError(t, x, e, api.OK)
		for quarter := range 4 {
			g, e := sample.BinOf(x, quarter)
			if want := binByDefinition(x, quarter); e != api.OK || g != want || s[quarter] != want {
				t.Fatal(x, quarter, g, e, s, want)
			}
		}
	}
}

func TestBinsErrors(t *testing.T) {
	for _, c := range badSamples() {
		s, e := sample.BinsOf(c.x)
		wantError(t, len(c.x), e, c.want)
		g, e := sample.BinOf(c.x, 3)
		wantError(t, len(c.x), e, c.want)
		if c.want == api.OK {
			continue
		}
		if s != [4]api.Gauss{} || g != (api.Gauss{}) {
			t.Error(len(c.x), s, g)
		}
		_, e = sample.BinOf(c.x, 4) // the samples come first
		wantError(t, len(c.x), e, c.want)
	}
	for _, quarter := range badNumbers(0, 3) {
		g, e := sample.BinOf(reals(1, 2), quarter)
		wantError(t, quarter, e, api.ErrRange)
		if g != (api.Gauss{}) {
			t.Error(quarter, g)
		}
	}
}

// P2.7: the errors of bins, in their order.
func TestRestored(t *testing.T) {
	for _, c := range []struct {
		s, want [4]api.Gauss
		e       api.Errno
	}{
		{[4]api.Gauss{gauss(10, 0), gauss(-2, 2), gauss(-2, 0), gauss(-2, -2)}, [4]api.Gauss(reals(1, 2, 3, 4)), api.OK},
		{[4]api.Gauss{}, [4]api.Gauss{}, api.OK},
		{[4]api.Gauss{gauss(8000, -8000)}, [4]api.Gauss(slices.Repeat([]api.Gauss{gauss(2000, -2000)}, 4)), api.OK},
		{[4]api.Gauss{1: gauss(4, 0)}, [4]api.Gauss{gauss(1, 0), gauss(0, 1), gauss(-1, 0), gauss(0, -1)}, api.OK},
		{[4]api.Gauss{3: gauss(4, 0)}, [4]api.Gauss{gauss(1, 0), gauss(0, -1), gauss(-1, 0), gauss(0, 1)}, api.OK},
		{[4]api.Gauss{gauss(8001, 0)}, [4]api.Gauss{}, api.ErrRange},
		{[4]api.Gauss{3: gauss(0, -8001)}, [4]api.Gauss{}, api.ErrRange},
		{[4]api.Gauss{2: gauss(math.MinInt, 0)}, [4]api.Gauss{}, api.ErrRange},
		{[4]api.Gauss{gauss(1, 0), gauss(0, math.MaxInt)}, [4]api.Gauss{}, api.ErrRange}, // before the form
		{[4]api.Gauss{gauss(8004, 0)}, [4]api.Gauss{}, api.ErrRange},
		{[4]api.Gauss{gauss(1, 0)}, [4]api.Gauss{}, api.ErrForm},
		{[4]api.Gauss{gauss(2, 0)}, [4]api.Gauss{}, api.ErrForm},
		{[4]api.Gauss{gauss(-1, 0)}, [4]api.Gauss{}, api.ErrForm},
		{[4]api.Gauss{gauss(0, 2)}, [4]api.Gauss{}, api.ErrForm},
		{[4]api.Gauss{gauss(4, 0), gauss(4, 0), gauss(4, 0), gauss(4, 1)}, [4]api.Gauss{}, api.ErrForm},
		{[4]api.Gauss{gauss(1, 1), gauss(-1, 0), {}, gauss(0, -1)}, [4]api.Gauss{}, api.ErrForm}, // the first two samples are whole, the others are not
		{[4]api.Gauss{gauss(8000, 0), gauss(4, 0)}, [4]api.Gauss{}, api.ErrRange},
		{[4]api.Gauss{gauss(-8000, 0), gauss(-4, 0)}, [4]api.Gauss{}, api.ErrRange},
		{[4]api.Gauss{gauss(0, 8000), gauss(0, 4)}, [4]api.Gauss{}, api.ErrRange},
		{[4]api.Gauss{gauss(8000, 0), gauss(8000, 0), gauss(8000, 0), gauss(8000, 0)}, [4]api.Gauss{}, api.ErrRange},
		{[4]api.Gauss{gauss(8000, 0), gauss(8000, 0), gauss(8000, 0), gauss(7999, 0)}, [4]api.Gauss{}, api.ErrForm}, // before the range of the samples
		{[4]api.Gauss{gauss(8000, 0), gauss(8000, 0), gauss(8000, 2), gauss(8000, 2)}, [4]api.Gauss{}, api.ErrForm}, // the first sample is whole and too great, the second is not whole
		{[4]api.Gauss{gauss(8000, 8000), gauss(8000, 8000), {}, gauss(-8000, 8000)}, [4]api.Gauss{}, api.ErrRange},  // only imaginary and later parts
	} {
		if x, e := sample.Restored(c.s); e != c.e || x != c.want {
			t.Error(c, x, e)
		}
	}
}

// P2.7: bins of whole samples are restored, and no others.
func TestRestoredForms(t *testing.T) {
	r := rand.New(rand.NewSource(15))
	forms := 0
	for range 3000 {
		s := [4]api.Gauss(randomSamples(r, 4, 2))
		x, e := sample.Restored(s)
		if e == api.ErrForm {
			forms++
			for n := range 4 {
				sum := binByDefinition(s[:], 4-n)
				if sum.Re%4 != 0 || sum.Im%4 != 0 {
					e = api.OK
				}
			}
			wantError(t, s, e, api.OK)
			continue
		}
		if back, _ := sample.BinsOf(x[:]); e != api.OK || back != s {
			t.Fatal(s, x, e)
		}
	}
	if forms == 0 || forms == 3000 {
		t.Error(forms)
	}
}

// P2.8: example 9, rounding up, and the limits.
func TestMinimumNorm(t *testing.T) {
	for _, c := range []struct{ amplitude, count, want int }{
		{10, 4, 800},
		{1, 1, 1},
		{3, 1, 5},
		{3, 3, 41},
		{2, 1, 2},
		{0, 400, 0},
		{2000, 0, 0},
		{2000, 400, 320000000000},
		{1999, 399, 318083677601},
	} {
		if n, e := sample.MinimumNorm(c.amplitude, c.count); e != api.OK || n != c.want {
			t.Error(c, n, e)
		}
	}
	for _, amplitude := range badNumbers(0, 2000) {
		n, e := sample.MinimumNorm(amplitude, 1)
		wantError(t, amplitude, e, api.ErrRange)
		if n != 0 {
			t.Error(amplitude, n)
		}
	}
	for _, count := range badNumbers(0, 400) {
		n, e := sample.MinimumNorm(1, count)
		wantError(t, count, e, api.ErrRange)
		if n != 0 {
			t.Error(count, n)
		}
	}
}

// P2.8: energies, and their errors.
func TestEnergyOf(t *testing.T) {
	for _, c := range []struct {
		x    []api.Gauss
		want int
	}{
		{reals(1, 2, 3, 4), 30},
		{[]api.Gauss{gauss(8, 6), gauss(-3, -4)}, 125},
		{nil, 0},
		{slices.Repeat([]api.Gauss{gauss(-2000, 2000)}, 400), 3200000000},
	} {
		if n, e := sample.EnergyOf(c.x); e != api.OK || n != c.want {
			t.Error(c, n, e)
		}
	}
	for _, c := range badSamples() {
		n, e := sample.EnergyOf(c.x)
		wantError(t, len(c.x), e, c.want)
		if c.want != api.OK && n != 0 {
			t.Error(len(c.x), n)
		}
	}
}

// P2.8: example 10, and the first of several strongest ranges.
func TestStrongestAt(t *testing.T) {
	for _, c := range []struct {
		x            []api.Gauss
		length, want int
	}{
		{reals(1, 3, 3, 1), 2, 1},
		{reals(1, 3, 3, 1), 1, 1},
		{reals(1, 3, 3, 1), 3, 0},
		{reals(1, 3, 3, 1), 4, 0},
		{reals(1, 3, 1, 4), 1, 3},
		{reals(1, 1, 1, 2), 2, 2},
		{reals(0, 0, 0), 2, 0},
		{[]api.Gauss{gauss(3, 0), gauss(0, -4), gauss(4, 0)}, 1, 1},
		{[]api.Gauss{gauss(3, 3), gauss(-4, -4)}, 1, 1},
		{make([]api.Gauss, 400), 400, 0},
	} {
		if n, e := sample.StrongestAt(c.x, c.length); e != api.OK || n != c.want {
			t.Error(c, n, e)
		}
	}
	r := rand.New(rand.NewSource(16))
	for range 300 {
		x := randomSamples(r, between(r, 1, 30), 2)
		length := between(r, 1, len(x))
		want, most := 0, -1
		for at := range len(x) - length + 1 {
			if n := energy(x[at : at+length]); n > most {
				want, most = at, n
			}
		}
		if n, e := sample.StrongestAt(x, length); e != api.OK || n != want {
			t.Fatal(x, length, n, e, want)
		}
	}
}

func TestStrongestAtErrors(t *testing.T) {
	for _, c := range badSamples() {
		if c.want == api.OK {
			continue
		}
		for _, length := range []int{0, 1, 400} {
			n, e := sample.StrongestAt(c.x, length)
			wantError(t, len(c.x), e, c.want)
			if n != 0 {
				t.Error(len(c.x), n)
			}
		}
	}
	for _, length := range badNumbers(1, 400) {
		for _, x := range [][]api.Gauss{nil, reals(1, 2)} {
			_, e := sample.StrongestAt(x, length)
			wantError(t, length, e, api.ErrRange)
		}
	}
	for _, c := range []struct{ count, length int }{{0, 1}, {3, 4}, {399, 400}, {0, 400}} {
		n, e := sample.StrongestAt(make([]api.Gauss, c.count), c.length)
		wantError(t, c, e, api.ErrNone)
		if n != 0 {
			t.Error(c, n)
		}
	}
}

// P2.13: the norms of bins, the samples of bins, and bins of mixed samples.
func TestBinsOfMixed(t *testing.T) {
	r := rand.New(rand.NewSource(17))
	for range 200 {
		four := randomSamples(r, 4, 2000)
		s, _ := sample.BinsOf(four)
		if sum, _ := sample.EnergyOf(four); energy(s[:]) != 4*sum {
			t.Fatal(four, s, sum)
		}
		back, e := sample.Restored(s)
		wantError(t, four, e, api.OK)
		wantSame(t, s, back[:], four)
		x := randomSamples(r, r.Intn(401), 2000)
		for quarter := range 4 {
			mixed, e := sample.Mixed(api.SampleProgram{Increment: 1024 * quarter}, x)
			wantError(t, quarter, e, api.OK)
			want, _ := sample.BinOf(mixed, 0)
			if g, e := sample.BinOf(x, quarter); e != api.OK || g != want {
				t.Fatal(quarter, g, e, want)
			}
		}
	}
}

// P2.14: samples that point to the right after mixing, and have a size, give a bin of at least the minimum norm.
func TestNothingIsHidden(t *testing.T) {
	r := rand.New(rand.NewSource(18))
	for range 300 {
		p := randomProgram(r)
		count, least := r.Intn(401), between(r, 0, 1500)
		right := make([]api.Gauss, count)
		for i := range right {
			re := between(r, least, min(least+r.Intn(3), 2000))
			im := re // the worst case: an eighth of a turn away
			if r.Intn(3) == 0 {
				im = r.Intn(re + 1)
			}
			right[i] = gauss(re, im*(1-2*r.Intn(2)))
		}
		x, _ := sample.Unmixed(p, right)
		amplitude := 2000
		for _, g := range x {
			for amplitude*amplitude > norm(g) {
				amplitude--
			}
		}
		mixed, _ := sample.Mixed(p, x)
		g, _ := sample.BinOf(mixed, 0)
		if n, e := sample.MinimumNorm(amplitude, count); e != api.OK || norm(g) < n {
			t.Fatal(p, x, amplitude, g, n, e)
		}
	}
	if g, _ := sample.BinOf(slices.Repeat([]api.Gauss{gauss(8, 6)}, 4), 0); g != gauss(32, 24) || norm(g) != 1600 {
		t.Error(g)
	}
}
