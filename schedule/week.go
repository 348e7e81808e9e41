package schedule

import (
	"cassegrain/api"
	"cassegrain/check"
)

// CheckWeek checks a week, and returns the part of it that an error concerns.
func CheckWeek(w api.ScheduleWeek) (api.ScheduleMark, api.Errno) {
	e := check.First(
		check.Range(w.Slots, 1, api.MaxScheduleTime),
		check.Require(api.ErrLarge, func() bool {
			return len(w.Antennas) <= api.MaxScheduleAntennas && len(w.Requests) <= api.MaxScheduleRequests
		}),
	)
	if e != api.OK {
		return api.ScheduleMark{List: api.ScheduleItself}, e
	}
	i, e := check.Indexed(w.Antennas, func(i int, a api.ScheduleAntenna) api.Errno { return checkAntenna(w, i, a) })
	if e != api.OK {
		return api.ScheduleMark{List: api.ScheduleAntennas, Index: i}, e
	}
	i, e = check.Indexed(w.Requests, func(_ int, r api.ScheduleRequest) api.Errno { return checkRequest(w, r) })
	if e != api.OK {
		return api.ScheduleMark{List: api.ScheduleRequests, Index: i}, e
	}
	return api.ScheduleMark{List: api.ScheduleItself}, api.OK
}

func checkAntenna(w api.ScheduleWeek, i int, a api.ScheduleAntenna) api.Errno {
	return check.First(
		check.NewName(a.Name, w.Antennas[:i], func(a api.ScheduleAntenna) string { return a.Name }),
		check.Range(a.Setup, 0, api.MaxScheduleSetup),
		check.AtMost(api.MaxScheduleClosed, a.Closed, func(r api.Range) api.Errno { return checkSlots(w, r) }),
	)
}

// checkSlots checks a range of slots.
func checkSlots(w api.ScheduleWeek, r api.Range) api.Errno {
	return check.First(check.Ends(r, 0, w.Slots-1), check.Ordered(r))
}

func checkRequest(w api.ScheduleWeek, r api.ScheduleRequest) api.Errno {
	return check.First(
		check.Name(r.Mission),
		func() api.Errno { return checkSlots(w, r.Window) },
		check.Range(r.Length, 1, r.Window.Hi-r.Window.Lo+1),
		check.Range(r.Value, 0, api.MaxScheduleValue),
		check.Require(api.ErrShape, func() bool { return len(r.Antennas) > 0 }),
		func() api.Errno {
			_, e := check.Indexed(r.Antennas, func(i, antenna int) api.Errno {
				return check.First(
					check.Require(api.ErrMissing, func() bool { return check.Exists(w.Antennas, antenna) }),
					ascending(r.Antennas, i),
				)
			})
			return e
		},
		check.Range(r.Need, 1, len(r.Antennas)),
	)
}
