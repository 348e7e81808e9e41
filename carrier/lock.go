package carrier

import (
	"cassegrain/api"
	"cassegrain/check"
	"cassegrain/number"
)

// LockOf returns for each error whether there is lock.
func LockOf(r api.CarrierLock, errors []int) ([]bool, api.Errno) {
	e := check.First(
		check.Range(r.Limit, 0, halfTurn),
		check.Range(r.Window, 1, api.MaxCarrierSamples),
		check.Range(r.Need, 1, r.Window),
		check.AtMost(api.MaxCarrierSamples, errors, check.Numbers(-halfTurn, halfTurn-1)),
	)
	if e != api.OK {
		return nil, e
	}
	locks := make([]bool, len(errors))
	for n := range errors {
		latest := errors[max(0, n+1-r.Window) : n+1]
		locks[n] = smallOf(latest, r.Limit) >= r.Need
	}
	return locks, api.OK
}

// smallOf returns how many errors are at most the limit in size.
func smallOf(errors []int, limit int) int {
	count := 0
	for _, e := range errors {
		if number.Size(e) <= limit {
			count++
		}
	}
	return count
}
