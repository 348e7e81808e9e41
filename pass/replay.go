package pass

import (
	"slices"

	"cassegrain/api"
	"cassegrain/carrier"
	"cassegrain/check"
	"cassegrain/sample"
)

// stream returns the stream of all packets.
func (r *record) stream() (api.SampleStream, api.Errno) {
	if len(r.packets) == 0 {
		return api.SampleStream{}, api.ErrNone
	}
	return sample.Assembled(r.packets)
}

// StreamOf returns the stream of a log.
func StreamOf(l []api.PassEntry) (api.SampleStream, api.Errno) {
	return ask(l, (*record).stream)
}

// phasesOf returns the phases of all samples of a stream that have one: of all that are not 0.
func phasesOf(samples []api.Gauss) []int {
	var phases []int
	for _, g := range samples {
		if phase, e := carrier.PhaseOf(g); e == api.OK {
			phases = append(phases, phase)
		}
	}
	return phases
}

// play plays the log with a valid loop and valid rules of lock. The only error of the loop is that there are too many phases.
func (r *record) play(loop api.CarrierLoop, lock api.CarrierLock) (api.PassReport, api.Errno) {
	stream, e := r.stream()
	if e != api.OK {
		return api.PassReport{}, e
	}
	states, deviations, e := carrier.Track(loop, phasesOf(stream.Samples))
	if e != api.OK {
		return api.PassReport{}, e
	}
	locks, e := carrier.LockOf(lock, deviations)
	if e != api.OK {
		return api.PassReport{}, e
	}
	report := api.PassReport{Samples: len(stream.Samples), Used: len(states), First: slices.Index(locks, true)}
	for _, locked := range locks {
		if locked {
			report.Locked++
		}
	}
	if len(states) > 0 {
		report.State = states[len(states)-1]
	}
	return report, api.OK
}

// Play plays a log with a loop and rules of lock.
func Play(l []api.PassEntry, loop api.CarrierLoop, lock api.CarrierLock) (api.PassReport, api.Errno) {
	return ask(l, func(r *record) (api.PassReport, api.Errno) {
		e := check.First(
			func() api.Errno { return carrier.CheckLoop(loop) },
			func() api.Errno { return checkLock(lock) },
		)
		if e != api.OK {
			return api.PassReport{}, e
		}
		return r.play(loop, lock)
	})
}

// replay plays the log with the settings in force.
func (r *record) replay() (api.PassReport, api.Errno) {
	if !r.inForce[settingLoop] || !r.inForce[settingLock] {
		return api.PassReport{}, api.ErrMissing
	}
	return r.play(r.loop, r.lock)
}

// Replay plays a log with the settings in force at its end.
func Replay(l []api.PassEntry) (api.PassReport, api.Errno) {
	return ask(l, (*record).replay)
}
