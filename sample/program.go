package sample

import (
	"cassegrain/api"
	"cassegrain/check"
	"cassegrain/number"
)

// quarterTurn is a quarter turn in phase steps.
const quarterTurn = api.PhaseTurn / 4

// CheckProgram checks a program.
func CheckProgram(p api.SampleProgram) api.Errno {
	return check.First(
		check.Range(p.Phase, 0, api.PhaseTurn-1),
		check.Range(p.Increment, -api.PhaseTurn, api.PhaseTurn),
		check.Range(p.Change, -api.PhaseTurn, api.PhaseTurn),
	)
}

// programCheck is the check of a program.
func programCheck(p api.SampleProgram) func() api.Errno {
	return func() api.Errno { return CheckProgram(p) }
}

// indexCheck is the check of an index.
func indexCheck(index int) func() api.Errno {
	return check.Range(index, 0, api.MaxSampleIndex)
}

// phaseAt returns the phase of a valid program at a valid index.
func phaseAt(p api.SampleProgram, index int) int {
	return number.Modulo(p.Phase+index*p.Increment+index*(index-1)/2*p.Change, api.PhaseTurn)
}

// turnsAt returns the number of quarter turns that is closest to the phase, modulo 4.
func turnsAt(p api.SampleProgram, index int) int {
	return (phaseAt(p, index) + quarterTurn/2) / quarterTurn % 4
}

// PhaseAt returns the phase at an index.
func PhaseAt(p api.SampleProgram, index int) (int, api.Errno) {
	if e := check.First(programCheck(p), indexCheck(index)); e != api.OK {
		return 0, e
	}
	return phaseAt(p, index), api.OK
}

// TurnsOf returns the turns at the indices from 0 to count - 1.
func TurnsOf(p api.SampleProgram, count int) ([]int, api.Errno) {
	if e := check.First(programCheck(p), check.Range(count, 0, api.MaxSampleStream)); e != api.OK {
		return nil, e
	}
	turns := make([]int, count)
	for n := range turns {
		turns[n] = turnsAt(p, n)
	}
	return turns, api.OK
}

// Advanced returns the program that begins at an index of p.
func Advanced(p api.SampleProgram, index int) (api.SampleProgram, api.Errno) {
	if e := check.First(programCheck(p), indexCheck(index)); e != api.OK {
		return api.SampleProgram{}, e
	}
	return api.SampleProgram{
		Phase:     phaseAt(p, index),
		Increment: number.Modulo(p.Increment+index*p.Change, api.PhaseTurn),
		Change:    p.Change,
	}, api.OK
}

// Mixed returns the samples mixed with the turns at their indices.
func Mixed(p api.SampleProgram, x []api.Gauss) ([]api.Gauss, api.Errno) {
	return turned(p, x, func(turns int) complex128 { return quarterTurns(-turns) })
}

// Unmixed returns the samples unmixed with the turns at their indices.
func Unmixed(p api.SampleProgram, x []api.Gauss) ([]api.Gauss, api.Errno) {
	return turned(p, x, quarterTurns)
}

// turned returns the samples multiplied by what the turns at their indices give.
func turned(p api.SampleProgram, x []api.Gauss, factor func(turns int) complex128) ([]api.Gauss, api.Errno) {
	if e := check.First(programCheck(p), samplesCheck(x)); e != api.OK {
		return nil, e
	}
	products := make([]api.Gauss, len(x))
	for n, g := range x {
		products[n] = gaussOf(complexOf(g) * factor(turnsAt(p, n)))
	}
	return products, api.OK
}
