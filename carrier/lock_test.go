package carrier_test

import (
	"math/rand"
	"slices"
	"testing"

	"cassegrain/api"
	"cassegrain/carrier"
)

// P3.7: example 9, the first samples, and the greatest error.
func TestLockOf(t *testing.T) {
	for _, c := range []struct {
		r      api.CarrierLock
		errors []int
		want   []bool
	}{
		{api.CarrierLock{Limit: 20, Window: 3, Need: 2}, []int{10, 30, 20, 50, 60}, []bool{false, false, true, false, false}},
		{api.CarrierLock{Limit: 20, Window: 3, Need: 2}, []int{-20, -21, 20, 21, -20}, []bool{false, false, true, false, true}},
		{api.CarrierLock{Limit: 20, Window: 5, Need: 3}, []int{0, 0, 0, 0}, []bool{false, false, true, true}},
		{api.CarrierLock{Limit: 0, Window: 1, Need: 1}, []int{0, 1, -1, 0}, []bool{true, false, false, true}},
		{api.CarrierLock{Limit: 2048, Window: 1, Need: 1}, []int{-2048, 2047}, []bool{true, true}},
		{api.CarrierLock{Limit: 2047, Window: 1, Need: 1}, []int{-2048, 2047}, []bool{false, true}},
		{api.CarrierLock{Limit: 5, Window: 200, Need: 200}, make([]int, 200), append(make([]bool, 199), true)},
		{api.CarrierLock{Limit: 5, Window: 2, Need: 2}, []int{0, 9, 0, 0, 9}, []bool{false, false, false, true, false}},
		{api.CarrierLock{Limit: 5, Window: 2, Need: 2}, nil, nil},
	} {
		got, e := carrier.LockOf(c.r, c.errors)
		wantError(t, c, e, api.OK)
		wantSame(t, c, got, c.want)
	}
}

// P3.7: lock by the definition.
func TestLockByDefinition(t *testing.T) {
	r := rand.New(rand.NewSource(17))
	for range 300 {
		rules := api.CarrierLock{Limit: r.Intn(40), Window: between(r, 1, 12)}
		rules.Need = between(r, 1, rules.Window)
		errors := make([]int, r.Intn(60))
		for i := range errors {
			errors[i] = between(r, -50, 50)
		}
		before := slices.Clone(errors)
		var want []bool
		for n := range errors {
			small := 0
			for at := n; at >= 0 && at > n-rules.Window; at-- {
				if -rules.Limit <= errors[at] && errors[at] <= rules.Limit {
					small++
				}
			}
			want = append(want, small >= rules.Need)
		}
		got, e := carrier.LockOf(rules, errors)
		wantError(t, rules, e, api.OK)
		wantSame(t, rules, got, want)
		wantSame(t, "the errors", errors, before)
	}
}

// P3.7: the errors of rules and errors.
func TestLockErrors(t *testing.T) {
	wantNone := func(limit, window, need int, errors []int, want api.Errno) {
		t.Helper()
		rules := api.CarrierLock{Limit: limit, Window: window, Need: need}
		got, e := carrier.LockOf(rules, errors)
		wantError(t, rules, e, want)
		wantSame(t, rules, got, nil)
	}
	for _, n := range badNumbers(0, 2048) {
		wantNone(n, 3, 2, []int{1}, api.ErrRange)
	}
	for _, n := range badNumbers(1, 200) {
		wantNone(20, n, 1, []int{1}, api.ErrRange)
		wantNone(20, n, n, []int{1}, api.ErrRange)
	}
	for _, n := range badNumbers(1, 3) {
		wantNone(20, 3, n, []int{1}, api.ErrRange)
		wantNone(20, 3, n, make([]int, 201), api.ErrRange) // before the number of errors
	}
	wantNone(20, 3, 2, make([]int, 201), api.ErrLarge)
	wantNone(20, 3, 2, append(make([]int, 200), 2048), api.ErrLarge) // before the range
	wantNone(20, 3, 2, append(make([]int, 199), 2048), api.ErrRange)
	for _, n := range badNumbers(-2048, 2047) {
		wantNone(20, 3, 2, []int{5, n}, api.ErrRange)
	}
}
