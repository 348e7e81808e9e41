package schedule

import (
	"slices"

	"cassegrain/api"
	"cassegrain/check"
)

// surplus returns by how much a value exceeds a cost.
func surplus(value, cost int) int {
	return max(0, value-cost)
}

// costOf returns the cost of a pass.
func (w week) costOf(x api.SchedulePass, prices [][]int) int {
	occupied := w.slotsOf(x)
	cost := 0
	for _, antenna := range x.Antennas {
		for _, price := range prices[antenna][occupied.Lo : occupied.Hi+1] {
			cost += price
		}
	}
	return cost
}

// bound returns the bound of valid prices.
func (w week) bound(prices [][]int) int {
	bound := 0
	for i, r := range w.Requests {
		greatest := 0 // as the cost is the minimum one, the surplus is the maximum one
		for x := range w.placements(nil, i) {
			greatest = max(greatest, surplus(r.Value, w.costOf(x, prices)))
		}
		bound += greatest
	}
	for antenna, row := range prices {
		for at, price := range row {
			if !w.closed[antenna][at] {
				bound += price
			}
		}
	}
	return bound
}

// BoundOf returns the bound of prices.
func BoundOf(w api.ScheduleWeek, prices [][]int) (int, api.Errno) {
	k, e := newWeek(w)
	if e != api.OK {
		return 0, e
	}
	e = check.First(
		check.Require(api.ErrShape, func() bool { return len(prices) == len(w.Antennas) }),
		check.Each(prices, func(row []int) api.Errno {
			return check.Require(api.ErrShape, func() bool { return len(row) == w.Slots })()
		}),
		check.Each(prices, func(row []int) api.Errno {
			return check.Each(row, check.Numbers(0, api.MaxSchedulePrice))()
		}),
	)
	if e != api.OK {
		return 0, e
	}
	return k.bound(prices), api.OK
}

// UniformPrices returns, of all prices that are the same number everywhere, those with the minimum bound, and the bound.
func UniformPrices(w api.ScheduleWeek) ([][]int, int, api.Errno) {
	k, e := newWeek(w)
	if e != api.OK {
		return nil, 0, e
	}
	best, least := 0, 0
	boundAt := k.uniformBound()
	for price := range api.MaxSchedulePrice + 1 {
		if bound := boundAt(price); price == 0 || bound < least {
			best, least = price, bound
		}
	}
	prices := make([][]int, len(w.Antennas))
	for i := range prices {
		prices[i] = slices.Repeat([]int{best}, w.Slots)
	}
	return prices, least, api.OK
}

// uniformBound returns what computes the bound of prices that are the same number everywhere. All possible passes of a request have the same cost then.
func (w week) uniformBound() func(price int) int {
	open := 0
	for i := range w.Antennas {
		open += w.closed[i].missing(w.Slots)
	}
	var possible []api.ScheduleRequest
	for i, r := range w.Requests {
		for range w.placements(nil, i) {
			possible = append(possible, r)
			break
		}
	}
	return func(price int) int {
		bound := price * open
		for _, r := range possible {
			bound += surplus(r.Value, price*r.Length*r.Need)
		}
		return bound
	}
}
