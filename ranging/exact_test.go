package ranging_test

import (
	"math"
	"math/big"
	"math/rand"
	"slices"
	"testing"

	"cassegrain/api"
)

// The tests compare the package with the definitions of the chapter, which this file computes slowly: by trying all distances and all sets, and by eliminating a number from inequalities with exact fractions.

// wantError reports an error that differs from the wanted one.
func wantError(t *testing.T, what any, got, want api.Errno) {
	t.Helper()
	if got != want {
		t.Errorf("%v: error %d, want %d", what, got, want)
	}
}

// wantValue reports a value or an error that differs from the wanted one.
func wantValue[T comparable](t *testing.T, what any, got T, e api.Errno, want T) {
	t.Helper()
	wantError(t, what, e, api.OK)
	if got != want {
		t.Errorf("%v: %v, want %v", what, got, want)
	}
}

// wantSlice reports a slice or an error that differs from the wanted one; a nil slice is an empty one.
func wantSlice[T comparable](t *testing.T, what any, got []T, e api.Errno, want []T) {
	t.Helper()
	wantError(t, what, e, api.OK)
	if !slices.Equal(got, want) {
		t.Errorf("%v: %v, want %v", what, got, want)
	}
}

// wantNoValue reports an error that differs from the wanted one, and a value beside it that is not its zero value.
func wantNoValue[T comparable](t *testing.T, what any, got T, e, want api.Errno) {
	t.Helper()
	wantError(t, what, e, want)
	if zero := *new(T); got != zero {
		t.Errorf("%v: %v beside an error", what, got)
	}
}

// wantNoSlice reports an error that differs from the wanted one, and items beside it.
func wantNoSlice[T any](t *testing.T, what any, got []T, e, want api.Errno) {
	t.Helper()
	wantError(t, what, e, want)
	if len(got) != 0 {
		t.Errorf("%v: %v beside an error", what, got)
	}
}

// wantSame reports an argument that was modified.
func wantSame[T comparable](t *testing.T, now, before []T) {
	t.Helper()
	if !slices.Equal(now, before) {
		t.Errorf("%v was modified: %v", before, now)
	}
}

// between returns a random number from lo to hi.
func between(r *rand.Rand, lo, hi int) int {
	return lo + r.Intn(hi-lo+1)
}

// badNumbers returns numbers that are not from lo to hi.
func badNumbers(lo, hi int) []int {
	return []int{math.MinInt, lo - 1000, lo - 1, hi + 1, hi + 1000, math.MaxInt}
}

// with returns a copy of a slice with another item at an index.
func with[T any](l []T, i int, item T) []T {
	l = slices.Clone(l)
	l[i] = item
	return l
}

// repeated returns a slice with so many equal items.
func repeated[T any](item T, count int) []T {
	return slices.Repeat([]T{item}, count)
}

// chosen returns the items of a slice with some indexes.
func chosen[T any](l []T, set []int) []T {
	var out []T
	for _, i := range set {
		out = append(out, l[i])
	}
	return out
}

// minimumByDefinition returns the minimum set for whose items something holds, by trying all sets; of several the lexicographically first one.
func minimumByDefinition[T any](l []T, holds func([]T) bool) ([]int, bool) {
	var best []int
	found := false
	for mask := range 1 << len(l) {
		var set []int
		for i := range l {
			if mask>>i&1 == 1 {
				set = append(set, i)
			}
		}
		if found && (len(set) > len(best) || len(set) == len(best) && slices.Compare(set, best) > 0) {
			continue
		}
		if holds(chosen(l, set)) {
			best, found = set, true
		}
	}
	return best, found
}

func tone(period, lo, hi int) api.RangingTone {
	return api.RangingTone{Period: period, Remainder: api.Range{Lo: lo, Hi: hi}}
}

// at returns the measurement of a distance, from that of a change.
func at(time, lo, hi int) api.RangingMeasurement {
	return api.RangingMeasurement{Kind: api.RangingDistance, To: time, Value: api.Range{Lo: lo, Hi: hi}}
}

func from(time, to, lo, hi int) api.RangingMeasurement {
	return api.RangingMeasurement{Kind: api.RangingChange, From: time, To: to, Value: api.Range{Lo: lo, Hi: hi}}
}

// examples returns the measurements of example 3.
func examples() []api.RangingMeasurement {
	return []api.RangingMeasurement{at(0, 100, 102), at(10, 120, 121)}
}

// clashing returns the measurements of example 5.
func clashing() []api.RangingMeasurement {
	return append(examples(), from(0, 5, 20, 30))
}

// fitsByDefinition says whether a distance fits a tone: a remainder plus a multiple of the period is the distance.
func fitsByDefinition(x api.RangingTone, distance int) bool {
	for remainder := x.Remainder.Lo; remainder <= x.Remainder.Hi; remainder++ {
		if (distance-remainder)%x.Period == 0 {
			return true
		}
	}
	return false
}

// fitAllByDefinition says whether a distance fits all tones.
func fitAllByDefinition(l []api.RangingTone, distance int) bool {
	return !slices.ContainsFunc(l, func(x api.RangingTone) bool { return !fitsByDefinition(x, distance) })
}

// candidatesByDefinition returns all candidates of tones in a limit.
func candidatesByDefinition(l []api.RangingTone, limit api.Range) []int {
	var out []int
	for distance := limit.Lo; distance <= limit.Hi; distance++ {
		if fitAllByDefinition(l, distance) {
			out = append(out, distance)
		}
	}
	return out
}

func fraction(num, den int) *big.Rat {
	return big.NewRat(int64(num), int64(den))
}

// ratOf returns a fraction of the package.
func ratOf(f api.Frac) *big.Rat {
	return fraction(f.Num, f.Den)
}

// fracOf returns a fraction in lowest terms.
func fracOf(x *big.Rat) api.Frac {
	return api.Frac{Num: int(x.Num().Int64()), Den: int(x.Denom().Int64())}
}

// fractions returns two fractions.
func fractions(a, b, c, d int) [2]api.Frac {
	return [2]api.Frac{{Num: a, Den: b}, {Num: c, Den: d}}
}

// inequality says that bounded times one number, plus other times another one, is at most a limit.
type inequality struct{ bounded, other, limit int }

// inequalitiesOf returns both limits of each measurement, for the distance at a time and the speed.
func inequalitiesOf(l []api.RangingMeasurement, time int) []inequality {
	var out []inequality
	for _, m := range l {
		bounded, other := 1, m.To-time // the distance at To is that at the time, and To - time times the speed
		if m.Kind == api.RangingChange {
			bounded, other = 0, m.To-m.From
		}
		out = append(out, inequality{bounded, other, m.Value.Hi}, inequality{-bounded, -other, -m.Value.Lo})
	}
	return out
}

// exchanged returns inequalities in which the other number is bounded.
func exchanged(l []inequality) []inequality {
	var out []inequality
	for _, x := range l {
		out = append(out, inequality{bounded: x.other, other: x.bounded, limit: x.limit})
	}
	return out
}

// eliminated returns inequalities without the other number (by the elimination of Fourier and Motzkin): those that do not have it, and the sums of each two that have it with different signs.
func eliminated(l []inequality) []inequality {
	var out []inequality
	for _, x := range l {
		if x.other == 0 {
			out = append(out, x)
		}
		for _, y := range l {
			if x.other > 0 && y.other < 0 {
				out = append(out, inequality{
					bounded: x.bounded*-y.other + y.bounded*x.other,
					limit:   x.limit*-y.other + y.limit*x.other,
				})
			}
		}
	}
	return out
}

// boundsByDefinition returns the minimum and the maximum of the bounded number (nil if there is none), and whether the inequalities hold for any numbers.
func boundsByDefinition(l []inequality) (lo, hi *big.Rat, possible bool) {
	possible = true
	for _, x := range eliminated(l) {
		switch {
		case x.bounded == 0:
			possible = possible && x.limit >= 0
		case x.bounded > 0:
			if most := fraction(x.limit, x.bounded); hi == nil || most.Cmp(hi) < 0 {
				hi = most
			}
		default:
			if least := fraction(x.limit, x.bounded); lo == nil || least.Cmp(lo) > 0 {
				lo = least
			}
		}
	}
	return lo, hi, possible && (lo == nil || hi == nil || lo.Cmp(hi) <= 0)
}

// distanceByDefinition returns the minimum and the maximum distance at a time, and the error of DistanceIn.
func distanceByDefinition(l []api.RangingMeasurement, time int) ([2]api.Frac, api.Errno) {
	return enclosureByDefinition(inequalitiesOf(l, time))
}

// speedByDefinition returns the minimum and the maximum speed, and the error of SpeedOf.
func speedByDefinition(l []api.RangingMeasurement) ([2]api.Frac, api.Errno) {
	return enclosureByDefinition(exchanged(inequalitiesOf(l, 0)))
}

func enclosureByDefinition(l []inequality) ([2]api.Frac, api.Errno) {
	lo, hi, possible := boundsByDefinition(l)
	if !possible {
		return [2]api.Frac{}, api.ErrClash
	}
	if lo == nil || hi == nil {
		return [2]api.Frac{}, api.ErrOpen
	}
	return [2]api.Frac{fracOf(lo), fracOf(hi)}, api.OK
}

// contradictByDefinition says whether measurements contradict each other.
func contradictByDefinition(l []api.RangingMeasurement) bool {
	_, _, possible := boundsByDefinition(inequalitiesOf(l, 0))
	return !possible
}

// measuredByDefinition returns the measured value of a line.
func measuredByDefinition(m api.RangingMeasurement, start, speed *big.Rat) *big.Rat {
	distance := func(time int) *big.Rat {
		n := new(big.Rat).Mul(speed, fraction(time, 1))
		return n.Add(n, start)
	}
	if m.Kind == api.RangingDistance {
		return distance(m.To)
	}
	return new(big.Rat).Sub(distance(m.To), distance(m.From))
}

// residualByDefinition returns the residual of a measurement by a line.
func residualByDefinition(m api.RangingMeasurement, start, speed *big.Rat) *big.Rat {
	value := measuredByDefinition(m, start, speed)
	if below := new(big.Rat).Sub(fraction(m.Value.Lo, 1), value); below.Sign() > 0 {
		return below
	}
	if above := new(big.Rat).Sub(value, fraction(m.Value.Hi, 1)); above.Sign() > 0 {
		return above
	}
	return new(big.Rat)
}

// provesByDefinition says whether the sum of a proof proves a bound, with numbers of any size.
func provesByDefinition(l []api.RangingMeasurement, c api.RangingClaim) bool {
	first, second, right := new(big.Int), new(big.Int), new(big.Int)
	add := func(sum *big.Int, n, weight int) {
		sum.Add(sum, new(big.Int).Mul(big.NewInt(int64(n)), big.NewInt(int64(weight))))
	}
	for _, term := range c.Proof.Terms {
		x := inequalitiesOf(l[term.Index:term.Index+1], 0)[1]
		if term.Upper {
			x = inequalitiesOf(l[term.Index:term.Index+1], 0)[0]
		}
		add(first, x.bounded, term.Weight)
		add(second, x.other, term.Weight)
		add(right, x.limit, term.Weight)
	}
	scale := big.NewInt(int64(c.Proof.Scale))
	if !c.Question.Upper {
		scale.Neg(scale)
	}
	times := new(big.Int).Mul(scale, big.NewInt(int64(c.Question.Time)))
	bound := new(big.Rat).Mul(new(big.Rat).SetInt(scale), ratOf(c.Bound))
	return first.Cmp(scale) == 0 && second.Cmp(times) == 0 && new(big.Rat).SetInt(right).Cmp(bound) <= 0
}

// spread is how random measurements are chosen: the latest time, the greatest size of a distance, how wide ranges are, and by how much they are displaced.
type spread struct{ time, size, width, shift int }

// spreads returns small and large ones, some with few times, so that edges are often parallel, and some with wide displacements, so that measurements often contradict each other.
func spreads() []spread {
	return []spread{
		{1, 3, 2, 1}, {3, 6, 4, 3}, {3, 10, 3, 0}, {4, 100000, 90000, 50000},
		{10, 30, 10, 8}, {10, 30, 0, 0}, {10, 30, 6, 3},
		{1000, 100000, 90000, 60000}, {1000, 100000, 300, 200}, {1000, 100000, 0, 0},
	}
}

// rangeAround returns a range within the greatest size that is near a number.
func rangeAround(r *rand.Rand, x spread, middle int) api.Range {
	middle += between(r, -x.shift, x.shift)
	lo, hi := middle-r.Intn(x.width+1), middle+r.Intn(x.width+1)
	return api.Range{Lo: min(max(lo, -x.size), x.size), Hi: min(max(hi, -x.size), x.size)}
}

// randomMeasurements returns valid measurements that are near some line, or near none.
func randomMeasurements(r *rand.Rand, x spread, count int) []api.RangingMeasurement {
	start, end := between(r, -x.size, x.size)/2, between(r, -x.size, x.size)/2
	chance := r.Intn(4)
	l := make([]api.RangingMeasurement, count)
	for i := range l {
		first, last := r.Intn(x.time+1), r.Intn(x.time+1)
		if first == last || r.Intn(3) < chance {
			l[i] = at(last, 0, 0)
			l[i].Value = rangeAround(r, x, start+(end-start)*last/x.time)
		} else {
			first, last = min(first, last), max(first, last)
			l[i] = from(first, last, 0, 0)
			l[i].Value = rangeAround(r, x, (end-start)*(last-first)/x.time)
		}
	}
	return l
}
