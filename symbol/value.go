package symbol

import (
	"cassegrain/api"
	"cassegrain/check"
	"cassegrain/number"
)

// softOf returns the soft value of a part for a full scale.
func softOf(part, full int) int {
	return max(-api.MaxSoft, min(api.MaxSoft*part/full, api.MaxSoft))
}

// hard returns the hard value of a soft symbol.
func hard(soft int) int {
	switch {
	case soft > 0:
		return 0
	case soft < 0:
		return 1
	}
	return api.SymbolUndecided
}

// SoftOf returns the soft values of both parts for a full scale.
func SoftOf(z api.Gauss, full int) ([2]int, api.Errno) {
	e := check.First(
		func() api.Errno { return check.Parts(api.MaxNumber)(z) },
		check.Range(full, 1, api.MaxSymbolFull),
	)
	if e != api.OK {
		return [2]int{}, e
	}
	return [2]int{softOf(z.Re, full), softOf(z.Im, full)}, api.OK
}

// HardOf returns the hard values of soft symbols.
func HardOf(soft []int) ([]int, api.Errno) {
	if e := softCheck(soft)(); e != api.OK {
		return nil, e
	}
	values := make([]int, len(soft))
	for i, n := range soft {
		values[i] = hard(n)
	}
	return values, api.OK
}

// BestQuarter returns 1 if the imaginary parts are stronger than the real ones, otherwise 0.
func BestQuarter(l []api.Gauss) (int, api.Errno) {
	if e := samplesCheck(l)(); e != api.OK {
		return 0, e
	}
	advantage := 0
	for _, g := range l {
		advantage += g.Re*g.Re - g.Im*g.Im
	}
	if advantage < 0 {
		return 1, api.OK
	}
	return 0, api.OK
}

// QuadrantOf returns the quadrant of a number other than 0. It turns the number back, quarter by quarter; single precision may round its parts, but keeps their signs.
func QuadrantOf(z api.Gauss) (int, api.Errno) {
	turned := number.Single(z)
	for quadrant := range quarters {
		if real(turned) > 0 && imag(turned) >= 0 {
			return quadrant, api.OK
		}
		turned *= -1i
	}
	return 0, api.ErrZero
}

// Differences returns, for each quadrant but the first one, by how many quarter turns it is ahead of the one before.
func Differences(quadrants []int) ([]int, api.Errno) {
	if e := quadrantsCheck(quadrants)(); e != api.OK {
		return nil, e
	}
	var differences []int
	for i := 1; i < len(quadrants); i++ {
		differences = append(differences, number.Modulo(quadrants[i]-quadrants[i-1], quarters))
	}
	return differences, api.OK
}

// Summed returns the quadrants that begin with the first one and have these differences.
func Summed(first int, differences []int) ([]int, api.Errno) {
	e := check.First(check.Range(first, 0, quarters-1), quadrantsCheck(differences))
	if e != api.OK {
		return nil, e
	}
	quadrants := []int{first}
	for i, difference := range differences {
		quadrants = append(quadrants, (quadrants[i]+difference)%quarters)
	}
	return quadrants, api.OK
}
