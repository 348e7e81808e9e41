package path_test

import (
	"math"
	"math/rand"
	"slices"
	"testing"

	"cassegrain/api"
	"cassegrain/path"
)

// drive returns the drive of the chapter's example 6 with a rate.
func drive(rate int) api.PathDrive {
	return api.PathDrive{Turn: 100, Limits: span(-150, 150), Start: 90, Rate: rate}
}

// badDrives returns drives with their errors.
func badDrives() []struct {
	d    api.PathDrive
	want api.Errno
} {
	const limit = api.MaxPathLimit
	type row = struct {
		d    api.PathDrive
		want api.Errno
	}
	of := func(turn, lo, hi, start, rate int) api.PathDrive {
		return api.PathDrive{Turn: turn, Limits: span(lo, hi), Start: start, Rate: rate}
	}
	return []row{
		{of(0, 0, 9, 0, 0), api.ErrRange},
		{of(-1, 9, 0, 0, 0), api.ErrRange}, // before the order
		{of(3601, 0, 9, 0, 0), api.ErrRange},
		{of(1, -limit-1, 9, 0, 0), api.ErrRange},
		{of(1, limit+1, 9, 0, 0), api.ErrRange},
		{of(1, 0, limit+1, 0, 0), api.ErrRange},
		{of(1, 0, -limit-1, 0, 0), api.ErrRange},
		{of(1, math.MinInt, math.MaxInt, 0, 0), api.ErrRange},
		{of(1, 0, 9, 0, -1), api.ErrRange},
		{of(1, 9, 0, 0, 2*limit+1), api.ErrRange},
		{of(1, 9, 8, 8, 0), api.ErrOrder},
		{of(1, 9, 8, 100, 0), api.ErrOrder},
		{of(1, 0, 9, 10, 0), api.ErrRange},
		{of(1, 0, 9, -1, 0), api.ErrRange},
		{of(1, 0, 9, math.MinInt, 0), api.ErrRange},
	}
}

// P1.5: the errors of a drive and its limits.
func TestCheckDrive(t *testing.T) {
	for _, c := range badDrives() {
		wantError(t, c.d, path.CheckDrive(c.d), c.want)
	}
	for _, d := range []api.PathDrive{
		drive(30),
		{Turn: 1},
		{Turn: 3600, Limits: span(-20000, 20000), Start: 20000, Rate: 40000},
		{Turn: 1, Limits: span(-20000, -20000), Start: -20000},
	} {
		wantError(t, d, path.CheckDrive(d), api.OK)
	}
}

// P1.5: example 6 and the edge cases.
func TestPointing(t *testing.T) {
	far := api.PathDrive{Turn: 10, Limits: span(-100, 100), Start: 0, Rate: 9}
	var around, up []int
	for i := range 12 {
		around = append(around, (i+1)*6%10)
		up = append(up, -4*(i+1))
	}
	fast := func(start int) api.PathDrive {
		return api.PathDrive{Turn: 10, Limits: span(-12, 12), Start: start, Rate: 40000}
	}
	for name, c := range map[string]struct {
		d       api.PathDrive
		targets []int
		want    []int
		travel  int
	}{
		"example":               {drive(35), []int{10, 30, 95}, []int{110, 130, 95}, 75},
		"no targets":            {drive(0), nil, nil, 0},
		"without motion":        {drive(0), []int{90, 90}, []int{90, 90}, 0},
		"several turns":         {far, around, up, 48},
		"the lower one of two":  {fast(0), []int{5}, []int{-5}, 5},
		"lower, and on":         {fast(0), []int{5, 0}, []int{-5, -10}, 10},
		"the lower one is off":  {fast(-8), []int{7}, []int{-3}, 5},
		"away from the limit":   {fast(12), []int{4}, []int{4}, 8},
		"farther for the rate":  {api.PathDrive{Turn: 10, Limits: span(0, 19), Start: 4, Rate: 6}, []int{0, 9}, []int{10, 9}, 7},
		"the lower one in time": {api.PathDrive{Turn: 10, Limits: span(0, 19), Start: 4, Rate: 6}, []int{0, 5}, []int{0, 5}, 9},
		"farther for the later": {api.PathDrive{Turn: 10, Limits: span(0, 19), Start: 4, Rate: 9}, []int{0, 9}, []int{10, 9}, 7},
		"one position":          {api.PathDrive{Turn: 7, Limits: span(3, 3), Start: 3}, []int{3, 3}, []int{3, 3}, 0},
		"a turn of one step":    {api.PathDrive{Turn: 1, Limits: span(-20000, 20000), Start: 77, Rate: 40000}, make([]int, 40), slices.Repeat([]int{77}, 40), 0},
	} {
		l, n, e := path.Pointing(c.d, c.targets)
		if e != api.OK || n != c.travel || !slices.Equal(l, c.want) {
			t.Error(name, l, n, e)
		}
		wantError(t, name, checkTravel(c.d, c.targets, l, c.travel), api.OK)
	}
}

// checkTravel is CheckPointing, with ErrProof for another travel.
func checkTravel(d api.PathDrive, targets, l []int, travel int) api.Errno {
	n, e := path.CheckPointing(d, targets, l)
	if e == api.OK && n != travel {
		return api.ErrProof
	}
	return e
}

// P1.5: targets for which there is no motion.
func TestPointingNone(t *testing.T) {
	narrow := api.PathDrive{Turn: 100, Limits: span(10, 50), Start: 20, Rate: 40000}
	for _, c := range []struct {
		d       api.PathDrive
		targets []int
	}{
		{drive(30), []int{10, 30, 95}},
		{drive(0), []int{91}},
		{narrow, []int{51}},
		{narrow, []int{30, 9, 30}},
	} {
		l, n, e := path.Pointing(c.d, c.targets)
		wantError(t, c.targets, e, api.ErrNone)
		if len(l) != 0 || n != 0 {
			t.Error(l, n)
		}
	}
}

// P1.5: the errors of drive and targets, for all three functions.
func TestTargetErrors(t *testing.T) {
	ask := func(d api.PathDrive, targets []int) []api.Errno {
		l, n, first := path.Pointing(d, targets)
		travel, second := path.CheckPointing(d, targets, []int{math.MinInt})
		rate, third := path.MinimumRate(d, targets)
		if len(l) != 0 || n != 0 || travel != 0 || rate != 0 {
			t.Error("a result beside an error", d, targets, l, n, travel, rate)
		}
		return []api.Errno{first, second, third}
	}
	for _, c := range badDrives() {
		for _, e := range ask(c.d, make([]int, 41)) {
			wantError(t, c.d, e, c.want)
		}
	}
	for _, c := range []struct {
		targets []int
		want    api.Errno
	}{
		{make([]int, 41), api.ErrLarge},
		{slices.Repeat([]int{-1}, 41), api.ErrLarge},
		{[]int{-1}, api.ErrRange},
		{[]int{0, 99, 100}, api.ErrRange},
		{[]int{math.MinInt}, api.ErrRange},
		{[]int{math.MaxInt}, api.ErrRange},
	} {
		for _, e := range ask(drive(30), c.targets) {
			wantError(t, c.targets, e, c.want)
		}
	}
	_, _, e := path.Pointing(drive(40000), make([]int, 40))
	wantError(t, "most targets", e, api.OK)
	_, _, e = path.Pointing(drive(40000), []int{0, 99})
	wantError(t, "all targets", e, api.OK)
}

// P1.5: motions that are accepted, and the errors of others, position by position.
func TestCheckPointing(t *testing.T) {
	for _, c := range []struct {
		targets, positions []int
		travel             int
		want               api.Errno
	}{
		{[]int{10, 30, 95}, []int{110, 130, 95}, 75, api.OK},
		{[]int{90, 90}, []int{90, 90}, 0, api.OK},
		{nil, nil, 0, api.OK},
		{[]int{60, 60}, []int{60, 60}, 30, api.OK},
		{[]int{10}, nil, 0, api.ErrShape},
		{nil, []int{10}, 0, api.ErrShape},
		{[]int{10}, []int{110, math.MinInt}, 0, api.ErrShape},
		{[]int{10}, []int{10}, 0, api.ErrLate},
		{[]int{10}, []int{-90}, 0, api.ErrLate},
		{[]int{26}, []int{126}, 0, api.ErrLate},
		{[]int{10}, []int{111}, 0, api.ErrClash},
		{[]int{10}, []int{11}, 0, api.ErrClash}, // before the rate
		{[]int{10}, []int{210}, 0, api.ErrBreak},
		{[]int{10}, []int{151}, 0, api.ErrBreak}, // before the target and the rate
		{[]int{10}, []int{math.MinInt}, 0, api.ErrBreak},
		{[]int{10}, []int{math.MaxInt}, 0, api.ErrBreak},
		{[]int{10, 30, 95}, []int{110, 130, 94}, 0, api.ErrClash},
		{[]int{10, 46, 95}, []int{110, 146, 151}, 0, api.ErrLate}, // before the later limit
		{[]int{10, 46, 95}, []int{110, 145, 151}, 0, api.ErrClash},
	} {
		n, e := path.CheckPointing(drive(35), c.targets, c.positions)
		wantError(t, c.positions, e, c.want)
		if n != c.travel {
			t.Error(c.positions, n)
		}
	}
	slow := api.PathDrive{Turn: 10, Limits: span(-30, 30), Start: 5, Rate: 20}
	if n, e := path.CheckPointing(slow, []int{5, 5, 5}, []int{-15, 5, -5}); e != api.OK || n != 50 {
		t.Error("below 0", n, e)
	}
}

// P1.5: example 6, and rates of 0 and of the whole width.
func TestMinimumRate(t *testing.T) {
	for _, c := range []struct {
		d       api.PathDrive
		targets []int
		want    int
		e       api.Errno
	}{
		{drive(30), []int{10, 30, 95}, 35, api.OK},
		{drive(40000), []int{10, 30, 95}, 35, api.OK},
		{drive(0), nil, 0, api.OK},
		{drive(0), []int{90, 90}, 0, api.OK},
		{api.PathDrive{Turn: 3600, Limits: span(0, 3599)}, []int{3599, 0}, 3599, api.OK},
		{api.PathDrive{Turn: 3600, Limits: span(1, 3600), Start: 1800}, []int{0, 1}, 3599, api.OK},
		{api.PathDrive{Turn: 100, Limits: span(10, 50), Start: 20}, []int{51}, 0, api.ErrNone},
	} {
		if n, e := path.MinimumRate(c.d, c.targets); e != c.e || n != c.want {
			t.Error(c, n, e)
		}
	}
}

// P1.5 and P1.12: the least travel, the first motion and the least rate by trying all motions.
func TestPointingExhaustive(t *testing.T) {
	r := rand.New(rand.NewSource(11))
	for range 3000 {
		d := api.PathDrive{Turn: 1 + r.Intn(9), Rate: r.Intn(14)}
		d.Limits.Lo = r.Intn(30) - 25
		d.Limits.Hi = d.Limits.Lo + r.Intn(25)
		d.Start = d.Limits.Lo + r.Intn(d.Limits.Hi-d.Limits.Lo+1)
		var targets []int
		for range r.Intn(5) {
			targets = append(targets, r.Intn(d.Turn))
		}
		checkMinimum(t, d, targets)
		checkRate(t, d, targets)
	}
}

// motions calls yield with each motion for the targets and the rate, in lexicographic order; yield must not keep it.
func motions(d api.PathDrive, targets []int, yield func([]int)) {
	var extend func(l []int, before int)
	extend = func(l []int, before int) {
		if len(l) == len(targets) {
			yield(l)
			return
		}
		for at := max(d.Limits.Lo, before-d.Rate); at <= min(d.Limits.Hi, before+d.Rate); at++ {
			if (at-targets[len(l)])%d.Turn == 0 {
				extend(append(l, at), at)
			}
		}
	}
	extend(nil, d.Start)
}

func travelOf(start int, l []int) int {
	n := 0
	for _, at := range l {
		n += max(at-start, start-at)
		start = at
	}
	return n
}

func checkMinimum(t *testing.T, d api.PathDrive, targets []int) {
	t.Helper()
	var best []int
	least := -1
	motions(d, targets, func(l []int) {
		n := travelOf(d.Start, l)
		if least < 0 || n < least {
			best, least = slices.Clone(l), n
		}
		wantError(t, l, checkTravel(d, targets, l, n), api.OK)
	})
	l, n, e := path.Pointing(d, targets)
	if least < 0 {
		wantError(t, d, e, api.ErrNone)
		return
	}
	if e != api.OK || n != least || !slices.Equal(l, best) {
		t.Fatal(d, targets, l, n, e, best, least)
	}
}

func checkRate(t *testing.T, d api.PathDrive, targets []int) {
	t.Helper()
	n, e := path.MinimumRate(d, targets)
	exists := func(rate int) bool {
		faster, found := d, false
		faster.Rate = rate
		motions(faster, targets, func([]int) { found = true })
		return found
	}
	if e == api.ErrNone {
		if exists(d.Limits.Hi - d.Limits.Lo) {
			t.Fatal(d, targets)
		}
		return
	}
	if e != api.OK || !exists(n) || n > 0 && exists(n-1) {
		t.Fatal(d, targets, n, e)
	}
}

// R3: arguments are not changed, and results are memory of their own.
func TestMemory(t *testing.T) {
	targets := []int{10, 30, 95}
	l, _, _ := path.Pointing(drive(35), targets)
	again, _, _ := path.Pointing(drive(35), targets)
	l[0] = 0
	if !slices.Equal(targets, []int{10, 30, 95}) || again[0] != 110 {
		t.Error(targets, again)
	}
	s := "3;0 300 400 0;1000 600 800 0"
	p, _ := path.ParseTrack(s)
	q, _ := path.ParseTrack(s)
	p.Knots[0].Time = 5
	if path.FormatTrack(q) != s {
		t.Error(q)
	}
}
