package ranging_test

import (
	"math"
	"math/rand"
	"strings"
	"testing"

	"cassegrain/api"
	"cassegrain/ranging"
)

// P7.7: example 8, and measurements that are not valid.
func TestFormatMeasurement(t *testing.T) {
	for want, m := range map[string]api.RangingMeasurement{
		"at 10 120 121":               at(10, 120, 121),
		"from 0 5 20 30":              from(0, 5, 20, 30),
		"at 0 0 0":                    {},
		"at 1000 -100000 100000":      at(1000, -100000, 100000),
		"from 999 1000 -7 -7":         from(999, 1000, -7, -7),
		"at -3 9 -8":                  at(-3, 9, -8),
		"at 4 5 6":                    {Kind: api.RangingDistance, From: 99, To: 4, Value: limit(5, 6)}, // without From
		"from 9 -9 1234567 -12345678": from(9, -9, 1234567, -12345678),
		"at 9223372036854775807 -9223372036854775808 0":     at(math.MaxInt, math.MinInt, 0),
		"from -9223372036854775808 0 9223372036854775807 0": from(math.MinInt, 0, math.MaxInt, 0),
	} {
		if s := ranging.FormatMeasurement(m); s != want {
			t.Error(m, s)
		}
	}
	for _, kind := range []int{math.MinInt, -1, 2, 3, math.MaxInt} {
		if s := ranging.FormatMeasurement(api.RangingMeasurement{Kind: kind, To: 10, Value: limit(120, 121)}); s != "" {
			t.Error(kind, s)
		}
	}
}

// badNumberStrings returns strings that are not numbers without signs of at most so many digits, nor several of them with single blanks.
func badNumberStrings(digits int) []string {
	return []string{
		"", " ", "1 ", " 1", "1  2", "-0", "+1", "01", "00", "-01", "-", "--1", "x", "1x", "0x1", "1,2", "1;2", "1\t2", "1\n", "\x00", "1\xff", "\u0661", "/", ":", "1.0", "1e2",
		"1" + strings.Repeat("0", digits), strings.Repeat("9", digits+1), "0" + strings.Repeat("9", digits-1), "9223372036854775808", strings.Repeat("9", 1000),
	}
}

// noMeasurement reports an error of ParseMeasurement that differs from the wanted one, and a measurement beside it.
func noMeasurement(t *testing.T, s string, want api.Errno) {
	t.Helper()
	got, e := ranging.ParseMeasurement(s)
	wantNoValue(t, s, got, e, want)
}

// P7.7: strings of measurements, and malformed ones.
func TestParseMeasurement(t *testing.T) {
	for s, want := range map[string]api.RangingMeasurement{
		"at 10 120 121":             at(10, 120, 121),
		"from 0 5 20 30":            from(0, 5, 20, 30),
		"at 0 0 0":                  {},
		"at 1000 -100000 100000":    at(1000, -100000, 100000),
		"from 999 1000 -100000 -7":  from(999, 1000, -100000, -7),
		"from 0 1000 100000 100000": from(0, 1000, 100000, 100000),
	} {
		got, e := ranging.ParseMeasurement(s)
		wantValue(t, s, got, e, want)
	}
	for _, around := range []string{"at # 1 2", "from # 5 1 2", "from 0 # 1 2", "from # 5 2 1"} {
		for _, s := range append(badNumberStrings(4), "-1", "-9999", "1 2") {
			noMeasurement(t, strings.Replace(around, "#", s, 1), api.ErrSyntax)
		}
	}
	for _, around := range []string{"at 5 # 2", "at 5 1 #", "from 0 5 # 2", "from 0 5 1 #", "from 5 0 1 #", "at 9999 1 #"} {
		for _, s := range append(badNumberStrings(6), "-1000000", "1 2") {
			noMeasurement(t, strings.Replace(around, "#", s, 1), api.ErrSyntax)
		}
	}
	for _, s := range []string{
		"", "at", "from", "at ", "from ", "at 1 2", "from 1 2 3", "at 1 2 3 4", "from 1 2 3 4 5", "1 2 3", "At 1 2 3", "FROM 0 5 1 2", "to 1 2 3", "at1 2 3",
		" at 1 2 3", "at  1 2 3", "at 1 2 3 ", "at 1 2 3\n", "at\t1 2 3", "from 0 5 1 2 ", " from 0 5 1 2", "from  0 5 1 2", "fro 0 5 1 2", "fromat 0 5 1 2", "at from 0 5 1", "\xff",
		"at 1 2 3;", "at 1" + strings.Repeat(" 2", 50000),
	} {
		noMeasurement(t, s, api.ErrSyntax)
	}
}

// P7.7: the errors of measurements that are read.
func TestParseMeasurementErrors(t *testing.T) {
	for s, want := range map[string]api.Errno{
		"at 1001 1 2":        api.ErrRange,
		"at 9999 2 1":        api.ErrRange,
		"at 5 100001 100002": api.ErrRange,
		"at 5 -100001 0":     api.ErrRange,
		"at 5 0 999999":      api.ErrRange,
		"at 5 -999999 1":     api.ErrRange,
		"at 5 2 1":           api.ErrOrder,
		"at 5 0 -1":          api.ErrOrder,
		"from 1001 1002 1 2": api.ErrRange,
		"from 5 1001 1 2":    api.ErrRange,
		"from 9999 0 1 2":    api.ErrRange,
		"from 5 5 100001 1":  api.ErrRange,
		"from 5 5 1 -100001": api.ErrRange,
		"from 5 5 1 2":       api.ErrOrder,
		"from 6 5 1 2":       api.ErrOrder,
		"from 5 6 2 1":       api.ErrOrder,
	} {
		noMeasurement(t, s, want)
	}
}

// P7.7: strings of tones, whatever they are.
func TestFormatTone(t *testing.T) {
	for want, x := range map[string]api.RangingTone{
		"10 3 4":              tone(10, 3, 4),
		"0 0 0":               {},
		"100000 99999 199998": tone(100000, 99999, 199998),
		"-1 -2 -3":            tone(-1, -2, -3),
		"9223372036854775807 -9223372036854775808 1234567": tone(math.MaxInt, math.MinInt, 1234567),
	} {
		if s := ranging.FormatTone(x); s != want {
			t.Error(x, s)
		}
	}
}

// P7.7: strings of tones, malformed ones, and the errors of tones that are read.
func TestParseTone(t *testing.T) {
	for s, want := range map[string]api.RangingTone{
		"10 3 4":              tone(10, 3, 4),
		"1 0 0":               tone(1, 0, 0),
		"100000 99999 199998": tone(100000, 99999, 199998),
	} {
		got, e := ranging.ParseTone(s)
		wantValue(t, s, got, e, want)
	}
	fails := func(s string, want api.Errno) {
		t.Helper()
		got, e := ranging.ParseTone(s)
		wantNoValue(t, s, got, e, want)
	}
	for _, around := range []string{"# 3 4", "10 # 4", "10 3 #", "0 3 #", "# 4 3"} {
		for _, s := range append(badNumberStrings(6), "-1", "-3", "1 2") {
			fails(strings.Replace(around, "#", s, 1), api.ErrSyntax)
		}
	}
	for _, s := range []string{"", "10", "10 3", "10 3 4 5", "10 3 4 ", " 10 3 4", "at 10 3 4", "10" + strings.Repeat(" 3", 50000)} {
		fails(s, api.ErrSyntax)
	}
	for s, want := range map[string]api.Errno{
		"0 0 0": api.ErrRange, "0 3 2": api.ErrRange, "100001 0 0": api.ErrRange, "999999 0 0": api.ErrRange,
		"10 10 10": api.ErrRange, "10 10 9": api.ErrRange, "10 999999 999999": api.ErrRange, "1 1 1": api.ErrRange,
		"10 3 2": api.ErrOrder, "10 9 0": api.ErrOrder,
		"10 3 13": api.ErrBreak, "10 0 999999": api.ErrBreak, "100000 99999 199999": api.ErrBreak,
	} {
		fails(s, want)
	}
}

// P7.14: strings and back, for valid measurements and tones.
func TestFormatAndBack(t *testing.T) {
	r := rand.New(rand.NewSource(12))
	for range 300 {
		for _, m := range randomMeasurements(r, spreads()[r.Intn(len(spreads()))], 12) {
			s := ranging.FormatMeasurement(m)
			got, e := ranging.ParseMeasurement(s)
			wantValue(t, s, got, e, m)
			if again := ranging.FormatMeasurement(got); again != s {
				t.Error(s, again)
			}
		}
		for _, x := range randomTones(r, 8, []int{1, 10, 100000}[r.Intn(3)]) {
			s := ranging.FormatTone(x)
			got, e := ranging.ParseTone(s)
			wantValue(t, s, got, e, x)
			if again := ranging.FormatTone(got); again != s {
				t.Error(s, again)
			}
		}
	}
}
