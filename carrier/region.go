package carrier

import (
	"maps"
	"slices"

	"cassegrain/api"
	"cassegrain/check"
	"cassegrain/number"
)

// region is the ranges of deviations of a region's rows, by their frequencies.
type region map[int]api.Range

// contains says whether a region contains a pair.
func (r region) contains(p pair) bool {
	row, ok := r[p.frequency]
	return ok && number.Within(p.deviation, row.Lo, row.Hi)
}

// include widens a row until it contains a pair, and returns all pairs that are new in the region.
func (r region) include(p pair) []pair {
	row, ok := r[p.frequency]
	if !ok {
		row = api.Range{Lo: p.deviation, Hi: p.deviation - 1} // contains nothing yet
	}
	var added []pair
	for ; p.deviation < row.Lo; row.Lo-- {
		added = append(added, pair{frequency: p.frequency, deviation: row.Lo - 1})
	}
	for ; row.Hi < p.deviation; row.Hi++ {
		added = append(added, pair{frequency: p.frequency, deviation: row.Hi + 1})
	}
	r[p.frequency] = row
	return added
}

// rows returns the rows of a region.
func (r region) rows() []api.CarrierRow {
	var rows []api.CarrierRow
	for _, frequency := range slices.Sorted(maps.Keys(r)) {
		rows = append(rows, api.CarrierRow{Frequency: frequency, Deviations: r[frequency]})
	}
	return rows
}

// Region returns a region that CheckRegion accepts.
func Region(l api.CarrierLoop, c api.CarrierClass) ([]api.CarrierRow, api.Errno) {
	switch _, e := FirstFailure(l, c); e {
	case api.OK:
		return nil, api.ErrBreak
	case api.ErrNone:
	default:
		return nil, e
	}
	least, ok := game{CarrierLoop: l, CarrierClass: c}.leastRegion()
	if !ok {
		return nil, api.ErrRefused
	}
	return least.rows(), api.OK
}

// leastRegion returns the region that all regions contain which prove that the loop never fails, if there are any. It is made of nothing but pairs that each of them must contain: those at the beginning, those that follow a pair, and those between two pairs of a row.
func (g game) leastRegion() (region, bool) {
	least := region{}
	var pending []pair // pairs of the region whose next pairs were not yet included
	for p := range g.beginnings {
		pending = append(pending, least.include(p)...)
	}
	for pairs := len(pending); len(pending) > 0; {
		if pairs > api.MaxCarrierPairs || len(least) > api.MaxCarrierRows {
			return nil, false
		}
		p := pending[len(pending)-1]
		pending = pending[:len(pending)-1]
		for in := range g.inputs {
			next := g.next(p, in)
			if g.fails(next) {
				return nil, false
			}
			added := least.include(next)
			pending = append(pending, added...)
			pairs += len(added)
		}
	}
	return least, true
}

// CheckRegion accepts a region that proves that a loop never fails for a class, and returns the number of its pairs.
func CheckRegion(l api.CarrierLoop, c api.CarrierClass, rows []api.CarrierRow) (int, api.Errno) {
	g := game{CarrierLoop: l, CarrierClass: c}
	r := regionOf(rows)
	e := check.First(
		g.checkBoth,
		check.Require(api.ErrLarge, func() bool { return len(rows) <= api.MaxCarrierRows }),
		func() api.Errno { return checkRows(rows) },
		check.Require(api.ErrLarge, func() bool { return pairCount(rows) <= api.MaxCarrierPairs }),
		check.Require(api.ErrMissing, func() bool { return g.beginsIn(r) }),
		func() api.Errno {
			return check.Each(pairsOf(rows), func(p pair) api.Errno { return g.checkPair(r, p) })()
		},
	)
	if e != api.OK {
		return 0, e
	}
	return pairCount(rows), api.OK
}

// checkRows checks the rows of a region alone, one by one.
func checkRows(rows []api.CarrierRow) api.Errno {
	for i, row := range rows {
		e := check.First(
			turnCheck(row.Frequency),
			turnCheck(row.Deviations.Lo),
			turnCheck(row.Deviations.Hi),
			check.Ordered(row.Deviations),
			check.Require(api.ErrOrder, func() bool { return i == 0 || rows[i-1].Frequency < row.Frequency }),
		)
		if e != api.OK {
			return e
		}
	}
	return api.OK
}

// regionOf returns the region with these rows.
func regionOf(rows []api.CarrierRow) region {
	r := region{}
	for _, row := range rows {
		r[row.Frequency] = row.Deviations
	}
	return r
}

// pairCount returns the number of pairs of a region with these valid rows.
func pairCount(rows []api.CarrierRow) int {
	count := 0
	for _, row := range rows {
		count += row.Deviations.Hi - row.Deviations.Lo + 1
	}
	return count
}

// pairsOf returns the pairs of a region with these valid rows, by frequency and then by deviation.
func pairsOf(rows []api.CarrierRow) []pair {
	var pairs []pair
	for _, row := range rows {
		for deviation := row.Deviations.Lo; deviation <= row.Deviations.Hi; deviation++ {
			pairs = append(pairs, pair{frequency: row.Frequency, deviation: deviation})
		}
	}
	return pairs
}

// checkPair checks that a pair of a region does not fail, and that no input leads out of the region.
func (g game) checkPair(r region, p pair) api.Errno {
	return check.First(
		check.Require(api.ErrBreak, func() bool { return !g.fails(p) }),
		check.Require(api.ErrGap, func() bool { return g.staysIn(r, p) }),
	)
}

// beginsIn says whether a region contains all pairs before the first sample.
func (g game) beginsIn(r region) bool {
	for p := range g.beginnings {
		if !r.contains(p) {
			return false
		}
	}
	return true
}

// staysIn says whether a region contains all pairs that follow a pair.
func (g game) staysIn(r region, p pair) bool {
	for in := range g.inputs {
		if !r.contains(g.next(p, in)) {
			return false
		}
	}
	return true
}
