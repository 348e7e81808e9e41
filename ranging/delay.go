package ranging

import (
	"math"
	"slices"

	"cassegrain/api"
	"cassegrain/check"
)

// checkLoop checks a loop.
func checkLoop(x api.RangingLoop) api.Errno {
	return check.First(
		check.Range(x.Cable, 0, api.MaxRangingDistance),
		check.Ends(x.Measured, 0, api.MaxRangingDistance),
		check.Ordered(x.Measured),
	)
}

// DelayOf returns the range of the delay of a station.
func DelayOf(l []api.RangingLoop) (api.Range, api.Errno) {
	e := check.First(
		check.Require(api.ErrShape, func() bool { return len(l) > 0 }),
		check.AtMost(api.MaxRangingItems, l, checkLoop),
	)
	if e != api.OK {
		return api.Range{}, e
	}
	delay := api.Range{Lo: math.MinInt, Hi: math.MaxInt}
	for _, x := range l {
		delay.Lo = max(delay.Lo, x.Measured.Lo-x.Cable)
		delay.Hi = min(delay.Hi, x.Measured.Hi-x.Cable)
	}
	if delay.Lo > delay.Hi {
		return api.Range{}, api.ErrClash
	}
	return delay, api.OK
}

// Corrected returns measurements, with the delay subtracted from each distance.
func Corrected(l []api.RangingMeasurement, delay api.Range) ([]api.RangingMeasurement, api.Errno) {
	if e := check.First(measurementsCheck(l), distancesCheck(delay), check.Ordered(delay)); e != api.OK {
		return nil, e
	}
	corrected := slices.Clone(l)
	for i, m := range l {
		if m.Kind != api.RangingDistance { // a change has the delay twice, with both signs
			continue
		}
		value := api.Range{Lo: m.Value.Lo - delay.Hi, Hi: m.Value.Hi - delay.Lo}
		if distancesCheck(value)() != api.OK {
			return nil, api.ErrLarge
		}
		corrected[i].Value = value
	}
	return corrected, api.OK
}
