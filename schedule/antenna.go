package schedule

import (
	"slices"

	"cassegrain/api"
	"cassegrain/number"
)

// occupied returns the slots in which an antenna is occupied by passes.
func (w week) occupied(p []api.SchedulePass, antenna int) []api.Range {
	var l []api.Range
	for _, x := range p {
		if slices.Contains(x.Antennas, antenna) {
			l = append(l, w.slotsOf(x))
		}
	}
	return l
}

// FreeOf returns the ranges of slots in which an antenna is neither closed nor occupied.
func FreeOf(w api.ScheduleWeek, p []api.SchedulePass, antenna int) ([]api.Range, api.Errno) {
	k, e := newPlannedWeek(w, p)
	if e == api.OK {
		e = k.antennaCheck(antenna)()
	}
	if e != api.OK {
		return nil, e
	}
	taken := k.closed[antenna]
	for _, r := range k.occupied(p, antenna) {
		taken.fill(r)
	}
	return taken.gaps(w.Slots), api.OK
}

// LoadOf returns in which part of the slots in which an antenna is not closed it is occupied.
func LoadOf(w api.ScheduleWeek, p []api.SchedulePass, antenna int) (api.Frac, api.Errno) {
	k, e := newPlannedWeek(w, p)
	if e == api.OK {
		e = k.antennaCheck(antenna)()
	}
	if e != api.OK {
		return api.Frac{}, e
	}
	open := k.closed[antenna].missing(w.Slots)
	if open == 0 {
		return api.Frac{Num: 0, Den: 1}, api.OK
	}
	occupied := 0
	for _, r := range k.occupied(p, antenna) { // passes of a plan on an antenna have no slot in common
		occupied += r.Hi - r.Lo + 1
	}
	return number.Lowest(occupied, open), api.OK
}

// ShareOf returns which part of the slots that a mission requests a plan grants.
func ShareOf(w api.ScheduleWeek, p []api.SchedulePass, mission string) (api.Frac, api.Errno) {
	k, e := newPlannedWeek(w, p)
	if e != api.OK {
		return api.Frac{}, e
	}
	granted, requested := 0, 0
	for i, r := range k.Requests {
		if r.Mission != mission {
			continue
		}
		requested += r.Length
		if has(p, i) {
			granted += r.Length
		}
	}
	if requested == 0 { // each length is at least 1
		return api.Frac{}, api.ErrMissing
	}
	return number.Lowest(granted, requested), api.OK
}
