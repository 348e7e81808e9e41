package schedule_test

import (
	"math"
	"math/rand"
	"slices"
	"testing"

	"cassegrain/api"
	"cassegrain/schedule"
)

// uniform returns prices that are the same number everywhere.
func uniform(w api.ScheduleWeek, price int) [][]int {
	prices := make([][]int, len(w.Antennas))
	for i := range prices {
		prices[i] = slices.Repeat([]int{price}, w.Slots)
	}
	return prices
}

func clonePrices(prices [][]int) [][]int {
	prices = slices.Clone(prices)
	for i, row := range prices {
		prices[i] = slices.Clone(row)
	}
	return prices
}

// boundByDefinition returns the bound of prices.
func boundByDefinition(w api.ScheduleWeek, prices [][]int) int {
	bound := 0
	for i, r := range w.Requests {
		least, found := 0, false
		for _, x := range possiblePasses(w, i) {
			cost := 0
			for antenna := range w.Antennas {
				for slot := range w.Slots {
					if occupiesByDefinition(w, x, antenna, slot) {
						cost += prices[antenna][slot]
					}
				}
			}
			if !found || cost < least {
				least, found = cost, true
			}
		}
		if found && r.Value > least {
			bound += r.Value - least
		}
	}
	for antenna := range w.Antennas {
		for slot := range w.Slots {
			if !closedByDefinition(w, antenna, slot) {
				bound += prices[antenna][slot]
			}
		}
	}
	return bound
}

// P9.4: example 4, and other prices of the week of the example, in which 0 costs 3 prices, 1 costs 2, and 2 costs 8, and 19 slots are open.
func TestBoundOf(t *testing.T) {
	w := exampleWeek()
	costly := uniform(w, 0)
	costly[0][2] = 4 // 0 meets it at any start
	closed := uniform(w, 0)
	closed[0][4] = 100000
	cheap := uniform(w, 100000) // but for the slots 0 to 3, in which each request has a possible pass
	for at := range 4 {
		cheap[0][at], cheap[1][at] = 0, 0
	}
	for _, c := range []struct {
		prices [][]int
		want   int
	}{
		{uniform(w, 0), 23},
		{uniform(w, 1), 7 + 5 + 0 + 19},
		{uniform(w, 3), 1 + 1 + 0 + 57},
		{uniform(w, 100000), 1900000},
		{costly, 6 + 7 + 6 + 4},
		{closed, 23},
		{cheap, 10 + 7 + 6 + 1100000},
	} {
		beforeWeek, beforePrices := text(w), text(c.prices)
		bound, e := schedule.BoundOf(w, c.prices)
		wantValue(t, c.prices, bound, e, c.want)
		wantSame(t, w, beforeWeek)
		wantSame(t, c.prices, beforePrices)
	}
	narrow := openWeek(2, 1) // the bound proves that no plan is worth more than 5
	narrow.Requests = []api.ScheduleRequest{request("mars", within(0, 1), 2, 3, 0), request("moon", within(0, 1), 2, 5, 0)}
	for want, prices := range map[int][]int{8: {0, 0}, 5: {3, 0}, 6: {6, 0}} {
		bound, e := schedule.BoundOf(narrow, [][]int{prices})
		wantValue(t, prices, bound, e, want)
	}
	bound, e := schedule.BoundOf(openWeek(5, 0), nil)
	wantValue(t, "no antennas", bound, e, 0)
}

// P9.4: the shape of all prices is checked before their numbers.
func TestBoundOfErrors(t *testing.T) {
	w := exampleWeek()
	fails := func(prices [][]int, want api.Errno) {
		t.Helper()
		bound, e := schedule.BoundOf(w, prices)
		wantNoValue(t, prices, bound, e, want)
	}
	good := uniform(w, 5)
	for _, prices := range [][][]int{nil, good[:1], append(clonePrices(good), good[0]), {nil, nil}, {good[0], nil}, {good[0][:9], good[1]}, {good[0], append(slices.Clone(good[1]), 0)}} {
		fails(prices, api.ErrShape)
	}
	for _, n := range badNumbers(0, 100000) {
		for antenna := range 2 {
			for slot := range 10 { // also a closed one
				bad := clonePrices(good)
				bad[antenna][slot] = n
				fails(bad, api.ErrRange)
				fails([][]int{bad[antenna]}, api.ErrShape)
				fails([][]int{bad[antenna], good[1][:9]}, api.ErrShape)
			}
		}
	}
	bound, e := schedule.BoundOf(openWeek(1, 0), [][]int{{1}})
	wantNoValue(t, "no antennas", bound, e, api.ErrShape)
}

// P9.4: example 4, and weeks in which other prices are best.
func TestUniformPrices(t *testing.T) {
	full := openWeek(4, 1) // at most two of the requests fit
	for i := range 5 {
		full.Requests = append(full.Requests, request("mars", within(0, 3), 2, 10+2*i, 0))
	}
	odd := openWeek(3, 2) // the price 7/2 would have the bound 21
	for range 3 {
		odd.Requests = append(odd.Requests, api.ScheduleRequest{Mission: "mars", Window: within(0, 2), Length: 2, Value: 14, Antennas: []int{0, 1}, Need: 2})
	}
	dear := openWeek(1, 1)
	for range 12 {
		dear.Requests = append(dear.Requests, request("mars", within(0, 0), 1, 100000, 0))
	}
	impossible := openWeek(4, 2) // its value counts for nothing
	impossible.Antennas[1].Closed = []api.Range{within(1, 2)}
	impossible.Requests = []api.ScheduleRequest{request("mars", within(0, 3), 2, 100000, 1), request("mars", within(0, 3), 1, 5, 1)}
	for _, c := range []struct {
		week         api.ScheduleWeek
		price, bound int
	}{
		{exampleWeek(), 0, 23},
		{full, 7, 2 + 4 + 28},
		{odd, 3, 3*2 + 18},
		{dear, 100000, 100000},
		{impossible, 0, 5},
		{openWeek(3, 2), 0, 0},
		{openWeek(3, 0), 0, 0},
	} {
		before := text(c.week)
		prices, bound, e := schedule.UniformPrices(c.week)
		wantValue(t, c, bound, e, c.bound)
		if text(prices) != text(uniform(c.week, c.price)) {
			t.Error(c, prices)
		}
		for i, row := range prices {
			row[0] = -1 - i
		}
		for i, row := range prices {
			if row[0] != -1-i || len(row) > 1 && row[1] != c.price {
				t.Error("rows share memory:", prices)
			}
		}
		wantSame(t, c.week, before)
	}
}

// P9.4, P9.10: bounds of random prices, which no plan exceeds, and uniform prices, no others of which have a lower bound.
func TestBoundsRandomly(t *testing.T) {
	r := rand.New(rand.NewSource(4))
	for range 150 {
		w, plans := randomSmallWeek(r)
		greatest := 0
		for _, p := range plans {
			greatest = max(greatest, valueByDefinition(w, p))
		}
		for range 10 {
			prices := uniform(w, 0)
			for _, row := range prices {
				for at := range row {
					row[at] = max(0, r.Intn(4)-1)
				}
			}
			bound, e := schedule.BoundOf(w, prices)
			wantValue(t, w, bound, e, boundByDefinition(w, prices))
			if bound < greatest {
				t.Error(w, prices, bound, greatest)
			}
		}
		least, lowest := math.MaxInt, 0
		for price := range 20 { // as values are at most 3, greater prices have no surplus
			if bound := boundByDefinition(w, uniform(w, price)); bound < least {
				least, lowest = bound, price
			}
		}
		prices, bound, e := schedule.UniformPrices(w)
		wantValue(t, w, bound, e, least)
		if text(prices) != text(uniform(w, lowest)) {
			t.Error(w, prices, lowest)
		}
	}
}

// P9.10: prices that are all 0 have the sum of the values of all requests that have a possible pass as their bound, also in large weeks.
func TestZeroPrices(t *testing.T) {
	r := rand.New(rand.NewSource(5))
	for i := range 200 {
		w := randomWeek(r, between(r, 4, 30), between(r, 0, 12))
		if i == 0 {
			w = largeWeek()
		}
		sum := 0
		for request, x := range w.Requests {
			if len(possiblePasses(w, request)) > 0 {
				sum += x.Value
			}
		}
		bound, e := schedule.BoundOf(w, uniform(w, 0))
		wantValue(t, w, bound, e, sum)
		p, e := schedule.Greedy(w)
		wantError(t, w, e, api.OK)
		if value := valueByDefinition(w, p); value > bound {
			t.Error(w, value, bound)
		}
	}
}
