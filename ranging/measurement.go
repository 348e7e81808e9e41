package ranging

import (
	"cassegrain/api"
	"cassegrain/check"
	"cassegrain/number"
)

// checkMeasurement checks a measurement.
func checkMeasurement(m api.RangingMeasurement) api.Errno {
	return check.First(
		check.Require(api.ErrKind, func() bool { return number.Within(m.Kind, 0, api.RangingKinds-1) }),
		timeCheck(m.From),
		timeCheck(m.To),
		distancesCheck(m.Value),
		check.Require(api.ErrForm, func() bool { return m.Kind != api.RangingDistance || m.From == 0 }),
		check.Require(api.ErrOrder, func() bool { return m.Kind != api.RangingChange || m.From < m.To }),
		check.Ordered(m.Value),
	)
}

// CheckMeasurements checks measurements, and returns the index of the measurement that an error concerns.
func CheckMeasurements(l []api.RangingMeasurement) (int, api.Errno) {
	if len(l) > api.MaxRangingItems {
		return 0, api.ErrLarge
	}
	return check.Indexed(l, func(_ int, m api.RangingMeasurement) api.Errno { return checkMeasurement(m) })
}

// measurementsCheck is the check of measurements.
func measurementsCheck(l []api.RangingMeasurement) func() api.Errno {
	return check.AtMost(api.MaxRangingItems, l, checkMeasurement)
}

// measurement is a measurement that was checked, and what it measures.
type measurement struct {
	api.RangingMeasurement
	form
}

// measurementsOf returns measurements that were checked.
func measurementsOf(l []api.RangingMeasurement) []measurement {
	checked := make([]measurement, len(l))
	for i, m := range l {
		checked[i] = measurement{RangingMeasurement: m, form: distanceAt(m.To)}
		if m.Kind == api.RangingChange {
			checked[i].form = changeIn(m.To - m.From)
		}
	}
	return checked
}

// residual returns the residual by a line, den times.
func (m measurement) residual(x line) int {
	value := m.of(x)
	return max(0, m.Value.Lo*x.den-value, value-m.Value.Hi*x.den)
}

// Residuals returns the residuals of all measurements by a line.
func Residuals(l []api.RangingMeasurement, x api.RangingLine) ([]api.Frac, api.Errno) {
	e := check.First(measurementsCheck(l), check.Each([]api.Frac{x.Start, x.Speed}, checkPart))
	if e != api.OK {
		return nil, e
	}
	given := lineOf(x)
	residuals := make([]api.Frac, len(l))
	for i, m := range measurementsOf(l) {
		residuals[i] = number.Lowest(m.residual(given), given.den)
		if max(residuals[i].Num, residuals[i].Den) > api.MaxPart {
			return nil, api.ErrLarge
		}
	}
	return residuals, api.OK
}

// checkPart checks a fraction of a line.
func checkPart(f api.Frac) api.Errno {
	return check.First(
		check.Require(api.ErrForm, func() bool { return number.IsLowest(f) }),
		check.Range(f.Num, -api.MaxRangingDistance, api.MaxRangingDistance),
		check.Range(f.Den, 1, api.MaxRangingTime),
	)
}
