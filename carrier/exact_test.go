package carrier_test

import (
	"math"
	"math/rand"
	"slices"
	"testing"

	"cassegrain/api"
)

// The tests compare the package with the definitions of the chapter, which this file computes slowly, in whole numbers.

// wantError reports an error that differs from the wanted one.
func wantError(t *testing.T, what any, got, want api.Errno) {
	t.Helper()
	if got != want {
		t.Errorf("%v: error %d, want %d", what, got, want)
	}
}

// wantSame reports a slice that differs from the wanted one; a nil slice is an empty one.
func wantSame[T comparable](t *testing.T, what any, got, want []T) {
	t.Helper()
	if !slices.Equal(got, want) {
		t.Errorf("%v: %v, want %v", what, got, want)
	}
}

func gauss(re, im int) api.Gauss {
	return api.Gauss{Re: re, Im: im}
}

func span(lo, hi int) api.Range {
	return api.Range{Lo: lo, Hi: hi}
}

// times returns the product of two whole complex numbers.
func times(a, b api.Gauss) api.Gauss {
	return gauss(a.Re*b.Re-a.Im*b.Im, a.Re*b.Im+a.Im*b.Re)
}

// power returns base to the power n, which is from 0 on.
func power(base api.Gauss, n int) api.Gauss {
	p := gauss(1, 0)
	for range n {
		p = times(p, base)
	}
	return p
}

func norm(g api.Gauss) int {
	return g.Re*g.Re + g.Im*g.Im
}

// roundedDown returns num / den rounded down.
func roundedDown(num, den int) int {
	if num%den < 0 {
		return num/den - 1
	}
	return num / den
}

// remainder returns the number from 0 to den - 1 that equals num modulo den.
func remainder(num, den int) int {
	return (num%den + den) % den
}

// quartersByDefinition returns the quarters of a hypothesis, each phase made from the one before.
func quartersByDefinition(h api.CarrierHypothesis, n int) []int {
	var quarters []int
	phase := h.Start
	for at := range n {
		quarters = append(quarters, remainder(phase, 4096)/1024)
		phase += h.Frequency + h.Rate*at
	}
	return quarters
}

func replicaByDefinition(h api.CarrierHypothesis, n int) []api.Gauss {
	var samples []api.Gauss
	for _, quarter := range quartersByDefinition(h, n) {
		samples = append(samples, power(gauss(0, 1), quarter))
	}
	return samples
}

func correlationByDefinition(h api.CarrierHypothesis, samples []api.Gauss) api.Gauss {
	var sum api.Gauss
	for n, quarter := range quartersByDefinition(h, len(samples)) {
		product := times(samples[n], power(gauss(0, -1), quarter))
		sum = gauss(sum.Re+product.Re, sum.Im+product.Im)
	}
	return sum
}

// gridByDefinition returns the hypotheses of a grid, in their order.
func gridByDefinition(g api.CarrierGrid) []api.CarrierHypothesis {
	var l []api.CarrierHypothesis
	for frequency := g.Frequencies.Lo; frequency <= g.Frequencies.Hi; frequency++ {
		for rate := g.Rates.Lo; rate <= g.Rates.Hi; rate++ {
			if (frequency-g.Frequencies.Lo)%g.Step == 0 {
				l = append(l, api.CarrierHypothesis{Frequency: frequency, Rate: rate})
			}
		}
	}
	return l
}

// searchByDefinition returns the first hypothesis with the maximum power, and this power.
func searchByDefinition(g api.CarrierGrid, samples []api.Gauss) (api.CarrierHypothesis, int) {
	l := gridByDefinition(g)
	best := l[0]
	for _, h := range l {
		if norm(correlationByDefinition(h, samples)) > norm(correlationByDefinition(best, samples)) {
			best = h
		}
	}
	return best, norm(correlationByDefinition(best, samples))
}

// errorByDefinition returns the number from -2048 to 2047 that equals a phase minus a state's phase, modulo a turn.
func errorByDefinition(x api.CarrierState, phase int) int {
	e := remainder(phase-x.Phase, 4096)
	if e > 2047 {
		e -= 4096
	}
	return e
}

// nextByDefinition returns the state after an error.
func nextByDefinition(l api.CarrierLoop, x api.CarrierState, e int) api.CarrierState {
	x.Frequency += roundedDown(e*l.Second, l.Den)
	if x.Frequency < -2048 {
		x.Frequency = -2048
	}
	if x.Frequency > 2047 {
		x.Frequency = 2047
	}
	x.Phase += x.Frequency + roundedDown(e*l.First, l.Den)
	return x
}

// trackByDefinition returns, for each phase, the state before it, and its error.
func trackByDefinition(l api.CarrierLoop, phases []int) ([]api.CarrierState, []int) {
	var states []api.CarrierState
	var errors []int
	x := api.CarrierState{Frequency: l.Frequency}
	for _, phase := range phases {
		e := errorByDefinition(x, phase)
		states, errors = append(states, x), append(errors, e)
		x = nextByDefinition(l, x, e)
	}
	return states, errors
}

// pair is the frequency of a loop, and the deviation before a sample.
type pair struct{ frequency, deviation int }

// after returns the pair after an input by which a pair does not fail.
func after(l api.CarrierLoop, p pair, in api.CarrierInput) pair {
	x := nextByDefinition(l, api.CarrierState{Frequency: p.frequency}, p.deviation+in.Noise)
	return pair{x.Frequency, p.deviation + in.Step - x.Phase}
}

// fails says whether a pair fails with a noise.
func fails(p pair, noise int) bool {
	return p.deviation+noise < -2048 || p.deviation+noise > 2047
}

// failsWithSome says whether a pair fails with some noise of a class.
func failsWithSome(c api.CarrierClass, p pair) bool {
	for noise := -c.Noise; noise <= c.Noise; noise++ {
		if fails(p, noise) {
			return true
		}
	}
	return false
}

// inputsOf returns all inputs of a sample of a class.
func inputsOf(c api.CarrierClass) []api.CarrierInput {
	var l []api.CarrierInput
	for noise := -c.Noise; noise <= c.Noise; noise++ {
		for step := c.Steps.Lo; step <= c.Steps.Hi; step++ {
			l = append(l, api.CarrierInput{Noise: noise, Step: step})
		}
	}
	return l
}

// failureByDefinition returns the error of FirstFailure for a valid loop and class, and the number of samples of a shortest input. It computes all pairs of each sample, also those that were reached before.
func failureByDefinition(l api.CarrierLoop, c api.CarrierClass) (int, api.Errno) {
	reached, now := map[pair]bool{}, map[pair]bool{}
	for deviation := c.Start.Lo; deviation <= c.Start.Hi; deviation++ {
		now[pair{l.Frequency, deviation}] = true
	}
	inputs := inputsOf(c)
	for sample := 0; ; sample++ {
		before, failed := len(reached), false
		for p := range now {
			reached[p] = true
			failed = failed || failsWithSome(c, p)
		}
		switch {
		case len(reached) > 3000:
			return 0, api.ErrLarge
		case failed:
			return sample + 1, api.OK
		case len(reached) == before:
			return 0, api.ErrNone
		}
		later := map[pair]bool{}
		for p := range now {
			for _, in := range inputs {
				later[after(l, p, in)] = true
			}
		}
		now = later
	}
}

// rowsContain says whether rows contain a pair.
func rowsContain(rows []api.CarrierRow, p pair) bool {
	return slices.ContainsFunc(rows, func(row api.CarrierRow) bool {
		return row.Frequency == p.frequency && row.Deviations.Lo <= p.deviation && p.deviation <= row.Deviations.Hi
	})
}

// regionByDefinition returns what CheckRegion returns for a valid loop and class, and rows that are valid one by one.
func regionByDefinition(l api.CarrierLoop, c api.CarrierClass, rows []api.CarrierRow) (int, api.Errno) {
	var pairs []pair
	for _, row := range rows {
		for deviation := row.Deviations.Lo; deviation <= row.Deviations.Hi; deviation++ {
			pairs = append(pairs, pair{row.Frequency, deviation})
		}
	}
	if len(pairs) > 3000 {
		return 0, api.ErrLarge
	}
	for deviation := c.Start.Lo; deviation <= c.Start.Hi; deviation++ {
		if !rowsContain(rows, pair{l.Frequency, deviation}) {
			return 0, api.ErrMissing
		}
	}
	inputs := inputsOf(c)
	for _, p := range pairs {
		if failsWithSome(c, p) {
			return 0, api.ErrBreak
		}
		for _, in := range inputs {
			if !rowsContain(rows, after(l, p, in)) {
				return 0, api.ErrGap
			}
		}
	}
	return len(pairs), api.OK
}

// closedByDefinition says whether there is a region that proves that a loop never fails, by widening rows until nothing is missing.
func closedByDefinition(l api.CarrierLoop, c api.CarrierClass) bool {
	rows := []api.CarrierRow{{Frequency: l.Frequency, Deviations: c.Start}}
	inputs := inputsOf(c)
	for grown := true; grown; {
		grown = false
		count := 0
		for _, row := range slices.Clone(rows) {
			count += row.Deviations.Hi - row.Deviations.Lo + 1
			if count > 3000 || len(rows) > 200 {
				return false
			}
			for deviation := row.Deviations.Lo; deviation <= row.Deviations.Hi; deviation++ {
				p := pair{row.Frequency, deviation}
				if failsWithSome(c, p) {
					return false
				}
				for _, in := range inputs {
					q := after(l, p, in)
					if !rowsContain(rows, q) {
						rows = widened(rows, q)
						grown = true
					}
				}
			}
		}
	}
	return true
}

// widened returns rows of which one is widened to contain a pair.
func widened(rows []api.CarrierRow, p pair) []api.CarrierRow {
	for i, row := range rows {
		if row.Frequency == p.frequency {
			rows[i].Deviations = span(min(row.Deviations.Lo, p.deviation), max(row.Deviations.Hi, p.deviation))
			return rows
		}
	}
	return append(rows, api.CarrierRow{Frequency: p.frequency, Deviations: span(p.deviation, p.deviation)})
}

// between returns a random number from lo to hi.
func between(r *rand.Rand, lo, hi int) int {
	return lo + r.Intn(hi-lo+1)
}

// ranges returns a random range within another one, with at most so many numbers.
func ranges(r *rand.Rand, within api.Range, count int) api.Range {
	lo := between(r, within.Lo, within.Hi)
	return span(lo, between(r, lo, min(within.Hi, lo+count-1)))
}

func randomSamples(r *rand.Rand, count, limit int) []api.Gauss {
	x := make([]api.Gauss, count)
	for i := range x {
		x[i] = gauss(between(r, -limit, limit), between(r, -limit, limit))
	}
	return x
}

func randomPhases(r *rand.Rand, count int) []int {
	phases := make([]int, count)
	for i := range phases {
		phases[i] = r.Intn(4096)
	}
	return phases
}

func randomHypothesis(r *rand.Rand) api.CarrierHypothesis {
	return api.CarrierHypothesis{Start: r.Intn(4096), Frequency: between(r, -2048, 2047), Rate: between(r, -64, 64)}
}

// randomGrid returns a grid with at most about 30 hypotheses.
func randomGrid(r *rand.Rand) api.CarrierGrid {
	step := between(r, 1, 2048)
	return api.CarrierGrid{
		Frequencies: ranges(r, span(-2048, 2047), 10*step),
		Step:        step,
		Rates:       ranges(r, span(-64, 64), 3),
	}
}

func randomLoop(r *rand.Rand) api.CarrierLoop {
	return api.CarrierLoop{
		First:     between(r, 0, 1000),
		Second:    between(r, 0, 1000),
		Den:       between(r, 1, 1000),
		Frequency: between(r, -2048, 2047),
	}
}

// quietLoop returns a loop that may well stay close to the truth.
func quietLoop(r *rand.Rand) api.CarrierLoop {
	l := api.CarrierLoop{First: between(r, 0, 60), Den: between(r, 30, 60), Frequency: between(r, -5, 5)}
	if r.Intn(3) > 0 {
		l.Second = between(r, 0, 3)
	}
	return l
}

// quietClass returns a class with few and small inputs.
func quietClass(r *rand.Rand) api.CarrierClass {
	return api.CarrierClass{
		Start: ranges(r, span(-30, 30), 10),
		Steps: ranges(r, span(-5, 5), 3),
		Noise: r.Intn(4),
	}
}

// badNumbers returns numbers that are not from lo to hi.
func badNumbers(lo, hi int) []int {
	return []int{lo - 1, hi + 1, math.MinInt, math.MaxInt}
}

// A wrong argument, and its error.
type wrong[T any] struct {
	value T
	want  api.Errno
}

// badHypotheses returns hypotheses that are not valid: all are ErrRange.
func badHypotheses() []api.CarrierHypothesis {
	var l []api.CarrierHypothesis
	for _, n := range badNumbers(0, 4095) {
		l = append(l, api.CarrierHypothesis{Start: n})
	}
	for _, n := range badNumbers(-2048, 2047) {
		l = append(l, api.CarrierHypothesis{Frequency: n})
	}
	for _, n := range badNumbers(-64, 64) {
		l = append(l, api.CarrierHypothesis{Rate: n})
	}
	return l
}

// badSamples returns samples that are not valid.
func badSamples() []wrong[[]api.Gauss] {
	last := make([]api.Gauss, 200)
	last[199] = gauss(0, 2001)
	return []wrong[[]api.Gauss]{
		{nil, api.ErrShape},
		{[]api.Gauss{}, api.ErrShape},
		{make([]api.Gauss, 201), api.ErrLarge},
		{append(slices.Clone(last), gauss(0, 0)), api.ErrLarge}, // before the range
		{last, api.ErrRange},
		{[]api.Gauss{gauss(2001, 0)}, api.ErrRange},
		{[]api.Gauss{gauss(-2001, 0)}, api.ErrRange},
		{[]api.Gauss{gauss(0, 2001)}, api.ErrRange},
		{[]api.Gauss{gauss(0, -2001)}, api.ErrRange},
		{[]api.Gauss{gauss(math.MinInt, 0)}, api.ErrRange},
		{[]api.Gauss{gauss(0, math.MaxInt)}, api.ErrRange},
	}
}

// badPhases returns phases that are not valid.
func badPhases() []wrong[[]int] {
	last := make([]int, 200)
	last[199] = 4096
	l := []wrong[[]int]{
		{make([]int, 201), api.ErrLarge},
		{append(slices.Clone(last), 0), api.ErrLarge}, // before the range
		{last, api.ErrRange},
	}
	for _, n := range badNumbers(0, 4095) {
		l = append(l, wrong[[]int]{[]int{7, n}, api.ErrRange})
	}
	return l
}

// goodGrid is the grid of the chapter's example 4.
func goodGrid() api.CarrierGrid {
	return api.CarrierGrid{Frequencies: span(-1024, 1024), Step: 1024}
}

// badGrids returns grids that are not valid.
func badGrids() []wrong[api.CarrierGrid] {
	grid := func(lo, hi, step, low, high int) api.CarrierGrid {
		return api.CarrierGrid{Frequencies: span(lo, hi), Step: step, Rates: span(low, high)}
	}
	l := []wrong[api.CarrierGrid]{
		{grid(1, 0, 1, 0, 0), api.ErrOrder},
		{grid(0, 0, 1, 1, 0), api.ErrOrder},
		{grid(2047, -2048, 1, 64, -64), api.ErrOrder},
		{grid(1, 0, 0, 0, 0), api.ErrRange}, // before the order
		{grid(1, 0, 1, 0, 65), api.ErrRange},
		{grid(0, 0, 1, -64, -65), api.ErrRange},
		{grid(-2048, 2047, 1, 1, 0), api.ErrOrder}, // before the number
		{grid(-2048, 2047, 1, 0, 65), api.ErrRange},
		{grid(0, 300, 1, 0, 0), api.ErrLarge},
		{grid(0, 1505, 5, 0, 0), api.ErrLarge},
		{grid(0, 1500, 5, 0, 0), api.ErrLarge},
		{grid(0, 6, 1, 0, 42), api.ErrLarge},
		{grid(0, 2, 1, -50, 50), api.ErrLarge},
		{grid(-2048, 2047, 1, -64, 64), api.ErrLarge},
	}
	for _, n := range badNumbers(-2048, 2047) {
		l = append(l, wrong[api.CarrierGrid]{grid(n, 0, 2048, 0, 0), api.ErrRange}, wrong[api.CarrierGrid]{grid(0, n, 2048, 0, 0), api.ErrRange})
	}
	for _, n := range badNumbers(-64, 64) {
		l = append(l, wrong[api.CarrierGrid]{grid(0, 0, 1, n, 0), api.ErrRange}, wrong[api.CarrierGrid]{grid(0, 0, 1, 0, n), api.ErrRange})
	}
	for _, n := range badNumbers(1, 2048) {
		l = append(l, wrong[api.CarrierGrid]{grid(0, 0, n, 0, 0), api.ErrRange})
	}
	return l
}

// goodLoop is the loop of the chapter's example 5.
func goodLoop() api.CarrierLoop {
	return api.CarrierLoop{First: 1, Den: 2}
}

// badLoops returns loops that are not valid: all are ErrRange.
func badLoops() []api.CarrierLoop {
	l := []api.CarrierLoop{{}}
	for _, n := range badNumbers(0, 1000) {
		l = append(l, api.CarrierLoop{First: n, Den: 1}, api.CarrierLoop{Second: n, Den: 1})
	}
	for _, n := range badNumbers(1, 1000) {
		l = append(l, api.CarrierLoop{First: 1, Den: n})
	}
	for _, n := range badNumbers(-2048, 2047) {
		l = append(l, api.CarrierLoop{Den: 1, Frequency: n})
	}
	return l
}

// goodClass is the class of the chapter's example 7.
func goodClass() api.CarrierClass {
	return api.CarrierClass{Steps: span(10, 10)}
}

// badClasses returns classes that are not valid.
func badClasses() []wrong[api.CarrierClass] {
	class := func(lo, hi, low, high, noise int) api.CarrierClass {
		return api.CarrierClass{Start: span(lo, hi), Steps: span(low, high), Noise: noise}
	}
	l := []wrong[api.CarrierClass]{
		{class(1, 0, 0, 0, 0), api.ErrOrder},
		{class(0, 0, 1, 0, 0), api.ErrOrder},
		{class(2047, -2048, 2047, -2048, 0), api.ErrOrder},
		{class(1, 0, 0, 0, 101), api.ErrRange}, // before the order
		{class(1, 0, 0, 2048, 0), api.ErrRange},
		{class(1, 0, 0, 9, 0), api.ErrOrder}, // before the number
		{class(0, 0, 0, 9, -1), api.ErrRange},
		{class(0, 0, 0, 9, 0), api.ErrLarge},
		{class(0, 0, -2048, 2047, 0), api.ErrLarge},
	}
	for _, n := range badNumbers(-2048, 2047) {
		l = append(l,
			wrong[api.CarrierClass]{class(n, 0, 0, 0, 0), api.ErrRange}, wrong[api.CarrierClass]{class(0, n, 0, 0, 0), api.ErrRange},
			wrong[api.CarrierClass]{class(0, 0, n, 0, 0), api.ErrRange}, wrong[api.CarrierClass]{class(0, 0, 0, n, 0), api.ErrRange},
		)
	}
	for _, n := range badNumbers(0, 100) {
		l = append(l, wrong[api.CarrierClass]{class(0, 0, 0, 0, n), api.ErrRange})
	}
	return l
}
