package carrier

import (
	"cassegrain/api"
	"cassegrain/check"
)

// PhaseOf returns the phase of a sample that is not 0.
func PhaseOf(g api.Gauss) (int, api.Errno) {
	e := check.First(
		func() api.Errno { return check.Parts(api.MaxSample)(g) },
		check.Require(api.ErrZero, func() bool { return g != api.Gauss{} }),
	)
	if e != api.OK {
		return 0, e
	}
	return eighthTurn*eighth(g) + eighthTurn/2, api.OK
}

// eighth returns the eighth of a turn that contains a sample that is not 0.
func eighth(g api.Gauss) int {
	switch {
	case 0 <= g.Im && g.Im < g.Re:
		return 0
	case 0 < g.Re && g.Re <= g.Im:
		return 1
	case 0 <= -g.Re && -g.Re < g.Im:
		return 2
	case 0 < g.Im && g.Im <= -g.Re:
		return 3
	}
	return 4 + eighth(api.Gauss{Re: -g.Re, Im: -g.Im})
}

// Unwrapped returns total phases that differ as little as possible from one to the next.
func Unwrapped(phases []int) ([]int, api.Errno) {
	if e := phasesCheck(phases)(); e != api.OK {
		return nil, e
	}
	unwrapped := make([]int, len(phases))
	for n, phase := range phases {
		if n == 0 {
			unwrapped[n] = phase
		} else {
			unwrapped[n] = unwrapped[n-1] + nearest(phase-unwrapped[n-1])
		}
	}
	return unwrapped, api.OK
}
