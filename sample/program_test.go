package sample_test

import (
	"math/big"
	"math/rand"
	"slices"
	"testing"

	"cassegrain/api"
	"cassegrain/sample"
)

// sweep returns the program of the chapter's example 4.
func sweep() api.SampleProgram {
	return api.SampleProgram{Phase: 500, Increment: 100, Change: 10}
}

// P2.4: the limits of programs.
func TestCheckProgram(t *testing.T) {
	for _, p := range badPrograms() {
		wantError(t, p, sample.CheckProgram(p), api.ErrRange)
	}
	for _, p := range []api.SampleProgram{
		{}, sweep(), {Phase: 4095, Increment: 4096, Change: 4096}, {Increment: -4096, Change: -4096},
	} {
		wantError(t, p, sample.CheckProgram(p), api.OK)
	}
}

// P2.4: the phases of example 4, of negative increments, and of the greatest index.
func TestPhaseAt(t *testing.T) {
	for _, c := range []struct {
		p           api.SampleProgram
		index, want int
	}{
		{sweep(), 0, 500},
		{sweep(), 1, 600},
		{sweep(), 2, 710},
		{sweep(), 3, 830},
		{api.SampleProgram{Increment: -1}, 1, 4095},
		{api.SampleProgram{Phase: 5, Increment: -4096}, 7, 5},
		{api.SampleProgram{Phase: 4095, Increment: 1}, 1, 0},
		{api.SampleProgram{Change: -1}, 1, 0},
		{api.SampleProgram{Change: -1}, 2, 4095},
		{api.SampleProgram{Increment: 1}, 1000000, 576},
	} {
		if n, e := sample.PhaseAt(c.p, c.index); e != api.OK || n != c.want {
			t.Error(c, n, e)
		}
	}
	r := rand.New(rand.NewSource(5))
	for range 300 {
		p := randomProgram(r)
		index := big.NewInt(1000000 - int64(r.Intn(3)))
		pairs := new(big.Int).Mul(index, new(big.Int).Sub(index, big.NewInt(1)))
		pairs.Div(pairs, big.NewInt(2)).Mul(pairs, big.NewInt(int64(p.Change)))
		phase := new(big.Int).Mul(index, big.NewInt(int64(p.Increment)))
		phase.Add(phase, pairs).Add(phase, big.NewInt(int64(p.Phase))).Mod(phase, big.NewInt(4096))
		if n, e := sample.PhaseAt(p, int(index.Int64())); e != api.OK || int64(n) != phase.Int64() {
			t.Fatal(p, index, n, e, phase)
		}
	}
}

// P2.4: the errors of a program and an index.
func TestIndexErrors(t *testing.T) {
	wantIndexError := func(p api.SampleProgram, index int, want api.Errno) {
		t.Helper()
		n, e := sample.PhaseAt(p, index)
		wantError(t, index, e, want)
		advanced, e := sample.Advanced(p, index)
		wantError(t, index, e, want)
		if want != api.OK && (n != 0 || advanced != (api.SampleProgram{})) {
			t.Error(p, index, n, advanced)
		}
	}
	for _, p := range badPrograms() {
		wantIndexError(p, 3, api.ErrRange)
	}
	for _, index := range badNumbers(0, 1000000) {
		wantIndexError(sweep(), index, api.ErrRange)
	}
	wantIndexError(sweep(), 1000000, api.OK)
	wantIndexError(sweep(), 0, api.OK)
}

// P2.4: phases and turns by the definitions.
func TestTurnsOf(t *testing.T) {
	r := rand.New(rand.NewSource(6))
	for range 100 {
		p := randomProgram(r)
		count := between(r, 0, 400)
		turns, e := sample.TurnsOf(p, count)
		wantError(t, p, e, api.OK)
		var want []int
		for n, phase := range phasesByDefinition(p, count) {
			if got, e := sample.PhaseAt(p, n); e != api.OK || got != phase {
				t.Fatal(p, n, got, e, phase)
			}
			want = append(want, turnsByDefinition(phase))
		}
		wantSame(t, p, turns, want)
	}
}

// P2.4: example 4, and the borders between two turns.
func TestTurnsAtBorders(t *testing.T) {
	turns, e := sample.TurnsOf(sweep(), 4)
	wantError(t, "sweep", e, api.OK)
	wantSame(t, "sweep", turns, []int{0, 1, 1, 1})
	for phase, want := range map[int]int{
		0: 0, 511: 0, 512: 1, 1535: 1, 1536: 2, 2559: 2, 2560: 3, 3583: 3, 3584: 0, 4095: 0,
	} {
		turns, e := sample.TurnsOf(api.SampleProgram{Phase: phase}, 1)
		wantError(t, phase, e, api.OK)
		wantSame(t, phase, turns, []int{want})
	}
}

func TestTurnsOfErrors(t *testing.T) {
	for _, p := range badPrograms() {
		turns, e := sample.TurnsOf(p, 3)
		wantError(t, p, e, api.ErrRange)
		wantSame(t, p, turns, nil)
	}
	for _, count := range badNumbers(0, 400) {
		turns, e := sample.TurnsOf(sweep(), count)
		wantError(t, count, e, api.ErrRange)
		wantSame(t, count, turns, nil)
	}
	for _, count := range []int{0, 400} {
		turns, e := sample.TurnsOf(sweep(), count)
		wantError(t, count, e, api.OK)
		if len(turns) != count {
			t.Error(count, len(turns))
		}
	}
}

// P2.4: the program from an index on.
func TestAdvanced(t *testing.T) {
	for _, c := range []struct {
		p     api.SampleProgram
		index int
		want  api.SampleProgram
	}{
		{sweep(), 2, api.SampleProgram{Phase: 710, Increment: 120, Change: 10}},
		{sweep(), 0, sweep()},
		{api.SampleProgram{Increment: -1, Change: -7}, 0, api.SampleProgram{Increment: 4095, Change: -7}},
		{api.SampleProgram{Increment: 4096, Change: 4096}, 5, api.SampleProgram{Change: 4096}},
		{api.SampleProgram{Increment: -4096, Change: -4096}, 1000000, api.SampleProgram{Change: -4096}},
		{api.SampleProgram{Phase: 4095, Increment: 1}, 1, api.SampleProgram{Increment: 1}},
	} {
		if p, e := sample.Advanced(c.p, c.index); e != api.OK || p != c.want {
			t.Error(c, p, e)
		}
	}
	r := rand.New(rand.NewSource(7))
	for range 300 {
		p, index := randomProgram(r), r.Intn(900000)
		advanced, e := sample.Advanced(p, index)
		wantError(t, p, e, api.OK)
		if advanced.Change != p.Change || advanced.Increment < 0 || advanced.Increment > 4095 {
			t.Fatal(p, index, advanced)
		}
		for range 10 {
			n := r.Intn(100000)
			later, _ := sample.PhaseAt(p, index+n)
			if phase, e := sample.PhaseAt(advanced, n); e != api.OK || phase != later {
				t.Fatal(p, index, n, phase, e, later)
			}
		}
	}
}

// P2.5: example 5, and all turns.
func TestMixed(t *testing.T) {
	for phase, want := range map[int][2]api.Gauss{
		0:    {gauss(3, 4), gauss(3, 4)},
		1024: {gauss(4, -3), gauss(-4, 3)},
		2048: {gauss(-3, -4), gauss(-3, -4)},
		3072: {gauss(-4, 3), gauss(4, -3)},
	} {
		p := api.SampleProgram{Phase: phase}
		mixed, e := sample.Mixed(p, []api.Gauss{gauss(3, 4)})
		wantError(t, phase, e, api.OK)
		wantSame(t, phase, mixed, []api.Gauss{want[0]})
		unmixed, e := sample.Unmixed(p, []api.Gauss{gauss(3, 4)})
		wantError(t, phase, e, api.OK)
		wantSame(t, phase, unmixed, []api.Gauss{want[1]})
	}
	r := rand.New(rand.NewSource(8))
	for range 100 {
		p, x := randomProgram(r), randomSamples(r, r.Intn(401), 2000)
		var mixed, unmixed []api.Gauss
		for n, phase := range phasesByDefinition(p, len(x)) {
			turns := turnsByDefinition(phase)
			mixed = append(mixed, times(x[n], power(gauss(0, -1), turns)))
			unmixed = append(unmixed, times(x[n], power(gauss(0, 1), turns)))
		}
		got, e := sample.Mixed(p, x)
		wantError(t, p, e, api.OK)
		wantSame(t, p, got, mixed)
		got, e = sample.Unmixed(p, x)
		wantError(t, p, e, api.OK)
		wantSame(t, p, got, unmixed)
	}
}

func TestMixedErrors(t *testing.T) {
	wantMixedError := func(p api.SampleProgram, x []api.Gauss, want api.Errno) {
		t.Helper()
		mixed, e := sample.Mixed(p, x)
		wantError(t, p, e, want)
		unmixed, e := sample.Unmixed(p, x)
		wantError(t, p, e, want)
		if want != api.OK && len(mixed)+len(unmixed) != 0 {
			t.Error(p, mixed, unmixed)
		}
	}
	for _, p := range badPrograms() {
		wantMixedError(p, nil, api.ErrRange)
		wantMixedError(p, make([]api.Gauss, 401), api.ErrRange) // before the errors of the samples
	}
	for _, c := range badSamples() {
		wantMixedError(sweep(), c.x, c.want)
	}
}

// P2.11: mixing can be turned back and be done in parts, and keeps the energy.
func TestTurnedBack(t *testing.T) {
	r := rand.New(rand.NewSource(9))
	for range 100 {
		p, x := randomProgram(r), randomSamples(r, r.Intn(401), 2000)
		mixed, _ := sample.Mixed(p, x)
		back, e := sample.Unmixed(p, mixed)
		wantError(t, p, e, api.OK)
		wantSame(t, p, back, x)
		unmixed, _ := sample.Unmixed(p, x)
		back, e = sample.Mixed(p, unmixed)
		wantError(t, p, e, api.OK)
		wantSame(t, p, back, x)
		before, _ := sample.EnergyOf(x)
		if after, e := sample.EnergyOf(mixed); e != api.OK || after != before {
			t.Fatal(p, before, after, e)
		}
		at := r.Intn(len(x) + 1)
		later, _ := sample.Advanced(p, at)
		first, _ := sample.Mixed(p, x[:at])
		second, e := sample.Mixed(later, x[at:])
		wantError(t, p, e, api.OK)
		wantSame(t, p, slices.Concat(first, second), mixed)
	}
}

// R3: the samples stay as they were, and results are memory of their own.
func TestMixedKept(t *testing.T) {
	x := reals(1, 2, 3)
	for _, mix := range []func(api.SampleProgram, []api.Gauss) ([]api.Gauss, api.Errno){sample.Mixed, sample.Unmixed} {
		for _, phase := range []int{0, 1024} {
			y, _ := mix(api.SampleProgram{Phase: phase}, x)
			clear(y)
			wantSame(t, phase, x, reals(1, 2, 3))
		}
	}
}
