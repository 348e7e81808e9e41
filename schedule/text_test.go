package schedule_test

import (
	"fmt"
	"math"
	"math/rand"
	"strings"
	"testing"

	"cassegrain/api"
	"cassegrain/schedule"
)

// P9.8: example 2, and strings of passes that no week has.
func TestFormatPlan(t *testing.T) {
	for _, c := range []struct {
		plan []api.SchedulePass
		want string
	}{
		{examplePlan(), "0@0+0 1@0+1 2@5+0+1"},
		{nil, ""},
		{[]api.SchedulePass{{}}, "0@0"},
		{[]api.SchedulePass{pass(3, 7), pass(3, 7)}, "3@7 3@7"},
		{[]api.SchedulePass{pass(9999, 9999, 9999, 0)}, "9999@9999+9999+0"},
		{[]api.SchedulePass{pass(-1, -2, -3), pass(10000, 10001, 10002)}, "-1@-2+-3 10000@10001+10002"},
		{[]api.SchedulePass{pass(math.MinInt, math.MaxInt)}, "-9223372036854775808@9223372036854775807"},
	} {
		before := text(c.plan)
		if s := schedule.FormatPlan(c.plan); s != c.want {
			t.Errorf("%q, want %q", s, c.want)
		}
		wantSame(t, c.plan, before)
	}
}

// P9.8: strings of plans, and of passes that no week has.
func TestParsePlan(t *testing.T) {
	for s, want := range map[string][]api.SchedulePass{
		"":                        nil,
		"0@0+0 1@0+1 2@5+0+1":     examplePlan(),
		"0@0":                     {{}},
		"9999@9999+9999":          {pass(9999, 9999, 9999)},
		"5@1+3+3+2 5@0 4@10":      {pass(5, 1, 3, 3, 2), pass(5, 0), pass(4, 10)},
		"0@0+0+1+2+3+4+5+6+7+8+9": {pass(0, 0, 0, 1, 2, 3, 4, 5, 6, 7, 8, 9)},
	} {
		p, e := schedule.ParsePlan(s)
		wantPasses(t, s, p, e, want)
		wantApart(t, s, p)
	}
	s := "0@0" + strings.Repeat("+1", 29000)
	p, e := schedule.ParsePlan(s)
	wantError(t, "many antennas", e, api.OK)
	if len(p) != 1 || len(p[0].Antennas) != 29000 {
		t.Error(len(p))
	}
}

// P9.8: how many passes and bytes a string may have. Its form is checked before the number of passes.
func TestParsePlanLarge(t *testing.T) {
	passes := func(count int) string {
		return strings.TrimSuffix(strings.Repeat("1@2+3 ", count), " ")
	}
	p, e := schedule.ParsePlan(passes(12))
	wantError(t, "12 passes", e, api.OK)
	if len(p) != 12 {
		t.Error(p)
	}
	for _, c := range []struct {
		s    string
		want api.Errno
	}{
		{passes(13), api.ErrLarge},
		{passes(10000), api.ErrLarge},
		{passes(13) + " x", api.ErrSyntax},
		{passes(12) + " ", api.ErrSyntax},
		{"x" + passes(13), api.ErrSyntax},
		{strings.Repeat("x", 60000), api.ErrSyntax},
		{strings.Repeat("x", 60001), api.ErrLarge},
		{strings.Repeat(" ", 60000), api.ErrSyntax},
		{strings.Repeat(" ", 60001), api.ErrLarge},
		{strings.Repeat("@", 60000), api.ErrSyntax},
		{"0@0" + strings.Repeat("+", 59997), api.ErrSyntax},
	} {
		p, e := schedule.ParsePlan(c.s)
		wantNoSlice(t, c.s[:12], p, e, c.want)
	}
	long := "0@00" + strings.Repeat("+1", 29998)
	p, e = schedule.ParsePlan(long[:3] + long[4:] + "1") // 60000 bytes
	wantError(t, "60000 bytes", e, api.OK)
	if len(p) != 1 {
		t.Error(len(p))
	}
	p, e = schedule.ParsePlan(long[:3] + long[4:] + "11")
	wantNoSlice(t, "60001 bytes", p, e, api.ErrLarge)
}

// P9.8: strings that do not have the form of a plan's.
func TestParsePlanSyntax(t *testing.T) {
	fails := func(s string) {
		t.Helper()
		p, e := schedule.ParsePlan(s)
		wantNoSlice(t, fmt.Sprintf("%q", s), p, e, api.ErrSyntax)
	}
	for _, s := range []string{
		" ", "0", "@", "0@", "@0", "0@+0", "0@0+", "0@0++1", "0@0+1+", "+0@0", "0+0", "0+0@0", "0@0@0", "0@0+0@0", "0@0 ", " 0@0", "0@0  1@1", "0@0 1", "0@0 +1",
		"0@0,1@1", "0@0\t1@1", "0@0\n", "0@0;", "0 @0", "0@ 0", "0@0 + 1", "0@0+0 ", "0-0", "0@0-1", "0@0+0 1@0+1 2@5+0+", "0@0\x00",
	} {
		fails(s)
	}
	for _, word := range []string{
		"", "-", "-1", "-0", "+1", "01", "00", "x", "1x", "1.0", "1\t", "\x001", "1\xff", "\u0661", "/", ":", "10000", "00001", "9223372036854775808", "18446744073709551617",
	} {
		for _, around := range []string{"#@0", "#@0+0", "0@#", "0@#+1", "0@0+#", "0@0+#+1", "0@0+1+#", "0@0 #@0", "0@0+1 1@0+#"} {
			fails(strings.Replace(around, "#", word, 1))
		}
	}
}

// P9.14: strings and back.
func TestFormatAndBack(t *testing.T) {
	r := rand.New(rand.NewSource(10))
	for i := range 300 {
		w := randomWeek(r, between(r, 4, 200), between(r, 0, 12))
		if i == 0 {
			w = largeWeek()
		}
		p, e := schedule.Greedy(w)
		wantError(t, w, e, api.OK)
		s := schedule.FormatPlan(p)
		q, e := schedule.ParsePlan(s)
		wantPasses(t, s, q, e, p)
		if again := schedule.FormatPlan(q); again != s {
			t.Error(s, again)
		}
	}
}
