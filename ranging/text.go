package ranging

import (
	"slices"
	"strings"

	"cassegrain/api"
	"cassegrain/number"
)

// The words with which the strings of measurements begin.
const (
	distanceWord = "at "
	changeWord   = "from "
)

// Numbers in strings.
const (
	maxDigits = 6
	maxTime   = 9999 // as a time has at most 4 digits
)

// FormatMeasurement returns the string of a measurement.
func FormatMeasurement(m api.RangingMeasurement) string {
	switch m.Kind {
	case api.RangingDistance:
		return distanceWord + number.Join(m.To, m.Value.Lo, m.Value.Hi)
	case api.RangingChange:
		return changeWord + number.Join(m.From, m.To, m.Value.Lo, m.Value.Hi)
	}
	return ""
}

// ParseMeasurement returns the measurement with this string.
func ParseMeasurement(s string) (api.RangingMeasurement, api.Errno) {
	m, ok := readMeasurement(s)
	if !ok {
		return api.RangingMeasurement{}, api.ErrSyntax
	}
	if e := checkMeasurement(m); e != api.OK {
		return api.RangingMeasurement{}, e
	}
	return m, api.OK
}

// readMeasurement reads the string of a measurement, which need not be valid.
func readMeasurement(s string) (api.RangingMeasurement, bool) {
	if numbers, ok := strings.CutPrefix(s, distanceWord); ok {
		times, value, ok := readNumbers(numbers, 1)
		return api.RangingMeasurement{Kind: api.RangingDistance, To: times[0], Value: value}, ok
	}
	if numbers, ok := strings.CutPrefix(s, changeWord); ok {
		times, value, ok := readNumbers(numbers, 2)
		return api.RangingMeasurement{Kind: api.RangingChange, From: times[0], To: times[1], Value: value}, ok
	}
	return api.RangingMeasurement{}, false
}

// readNumbers reads one or two times, and a value.
func readNumbers(s string, count int) ([2]int, api.Range, bool) {
	var times [2]int
	l, ok := number.Words{Count: count + 2, Unsigned: count, Digits: maxDigits}.Read(s)
	if !ok || slices.Max(l[:count]) > maxTime {
		return times, api.Range{}, false
	}
	copy(times[:], l[:count])
	return times, api.Range{Lo: l[count], Hi: l[count+1]}, true
}

// FormatTone returns the string of a tone.
func FormatTone(t api.RangingTone) string {
	return number.Join(t.Period, t.Remainder.Lo, t.Remainder.Hi)
}

// ParseTone returns the tone with this string.
func ParseTone(s string) (api.RangingTone, api.Errno) {
	l, ok := number.Words{Count: 3, Unsigned: 3, Digits: maxDigits}.Read(s)
	if !ok {
		return api.RangingTone{}, api.ErrSyntax
	}
	t := api.RangingTone{Period: l[0], Remainder: api.Range{Lo: l[1], Hi: l[2]}}
	if e := checkTone(t); e != api.OK {
		return api.RangingTone{}, e
	}
	return t, api.OK
}
