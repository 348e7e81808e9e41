package path_test

import (
	"math"
	"math/big"
	"math/rand"
	"reflect"
	"strings"
	"testing"

	"cassegrain/api"
	"cassegrain/path"
)

func track(doubt int, knots ...api.PathKnot) api.PathTrack {
	return api.PathTrack{Knots: knots, Doubt: doubt}
}

// P1.1: each error with its index, the limits, and the order of the errors.
func TestCheckTrack(t *testing.T) {
	many := func(n int) []api.PathKnot {
		var l []api.PathKnot
		for i := range n {
			l = append(l, knot(i, 0, 0, 0))
		}
		return l
	}
	const far, end = api.MaxPathPosition, api.MaxTick
	for name, c := range map[string]struct {
		p     api.PathTrack
		index int
		e     api.Errno
	}{
		"no knots":            {track(-1), 0, api.ErrShape},
		"most knots":          {track(0, many(12)...), 0, api.OK},
		"too many knots":      {track(-1, many(13)...), 0, api.ErrLarge},
		"too many bad knots":  {track(0, make([]api.PathKnot, 13)...), 0, api.ErrLarge},
		"one knot":            {track(0, knot(7, 1, 2, 3)), 0, api.OK},
		"time below 0":        {track(0, knot(-1, 0, 0, 0)), 0, api.ErrRange},
		"last time":           {track(0, knot(end-1, 0, 0, 0), knot(end, 0, 0, 0)), 0, api.OK},
		"time too late":       {track(0, knot(end, 0, 0, 0), knot(end+1, 0, 0, 0)), 1, api.ErrRange},
		"farthest":            {track(0, knot(0, far, -far, far)), 0, api.OK},
		"x too far":           {track(0, knot(0, far+1, 0, 0)), 0, api.ErrRange},
		"y too far":           {track(0, knot(0, 0, -far-1, 0)), 0, api.ErrRange},
		"z too far":           {track(0, knot(0, 0, 0, math.MinInt)), 0, api.ErrRange},
		"the same time":       {track(0, knot(3, 0, 0, 0), knot(3, 0, 0, 0)), 1, api.ErrOrder},
		"an earlier time":     {track(0, knot(0, 0, 0, 0), knot(3, 0, 0, 0), knot(2, 0, 0, 0)), 2, api.ErrOrder},
		"longest piece":       {track(0, knot(0, 0, 0, 0), knot(10000, 0, 0, 0)), 0, api.OK},
		"piece too long":      {track(0, knot(0, 0, 0, 0), knot(10001, 0, 0, 0)), 1, api.ErrGap},
		"fastest":             {track(0, knot(0, 0, 0, 0), knot(10, 3, 4, 0)), 0, api.OK},
		"fastest all ways":    {track(0, knot(0, 0, 0, 0), knot(14, 2, -3, 6)), 0, api.OK},
		"too fast":            {track(0, knot(0, 0, 0, 0), knot(10, 3, 4, 1)), 1, api.ErrBreak},
		"from end to end":     {track(0, knot(0, -far, -far, -far), knot(10000, far, far, far)), 1, api.ErrBreak},
		"most doubt":          {track(1000, knot(0, 0, 0, 0)), 0, api.OK},
		"doubt below 0":       {track(-1, knot(0, 0, 0, 0)), 0, api.ErrRange},
		"too much doubt":      {track(1001, knot(0, 0, 0, 0), knot(1, 0, 0, 0)), 0, api.ErrRange},
		"range before order":  {track(0, knot(5, 0, 0, 0), knot(4, far+1, 0, 0)), 1, api.ErrRange},
		"order before break":  {track(0, knot(5, 0, 0, 0), knot(4, 100, 0, 0)), 1, api.ErrOrder},
		"gap before break":    {track(0, knot(0, 0, 0, 0), knot(10001, far, 0, 0)), 1, api.ErrGap},
		"knot by knot":        {track(0, knot(0, 0, 0, 0), knot(1, 1, 0, 0), knot(-1, 0, 0, 0)), 1, api.ErrBreak},
		"knots before doubt":  {track(-1, knot(0, 0, 0, 0), knot(0, 0, 0, 0)), 1, api.ErrOrder},
		"extreme differences": {track(0, knot(0, 0, 0, 0), knot(math.MinInt, 0, 0, 0)), 1, api.ErrRange},
	} {
		if n, e := path.CheckTrack(c.p); n != c.index || e != c.e {
			t.Errorf("%s: %d, error %d", name, n, e)
		}
	}
	for want, p := range invalid() {
		_, e := path.CheckTrack(p)
		wantError(t, p, e, want)
	}
}

// P1.1: the box of examples 1 and 4, and of the edge cases of a track.
func TestBoxAt(t *testing.T) {
	backwards := track(0, knot(0, 0, 0, 0), knot(3, -1, 1, 0))
	turning := track(0, knot(0, 0, 0, 0), knot(10, 5, 0, 0), knot(20, 5, -5, 0))
	for _, c := range []struct {
		p    api.PathTrack
		time int
		want api.PathBox
	}{
		{probe(0), 500, api.PathBox{X: span(450, 450), Y: span(600, 600)}},
		{probe(0), 1, api.PathBox{X: span(300, 301), Y: span(400, 401)}},
		{probe(3), 0, api.PathBox{X: span(297, 303), Y: span(397, 403), Z: span(-3, 3)}},
		{probe(3), 1, api.PathBox{X: span(297, 304), Y: span(397, 404), Z: span(-3, 3)}},
		{backwards, 1, api.PathBox{X: span(-1, 0), Y: span(0, 1)}},
		{turning, 10, api.PathBox{X: span(5, 5)}},
		{turning, 11, api.PathBox{X: span(5, 5), Y: span(-1, 0)}},
		{track(1, knot(9, 1, 2, 3)), 9, api.PathBox{X: span(0, 2), Y: span(1, 3), Z: span(2, 4)}},
	} {
		if b, e := path.BoxAt(c.p, c.time); e != api.OK || b != c.want {
			t.Error(c.p, c.time, b, e)
		}
	}
}

func TestBoxAtErrors(t *testing.T) {
	for want, p := range invalid() {
		b, e := path.BoxAt(p, math.MaxInt)
		wantError(t, p, e, want)
		if b != (api.PathBox{}) {
			t.Error(p, b)
		}
	}
	for _, time := range []int{-1, 1001, math.MinInt, math.MaxInt} {
		_, e := path.BoxAt(probe(0), time)
		wantError(t, time, e, api.ErrRange)
	}
	for _, time := range []int{8, 10} {
		_, e := path.BoxAt(track(0, knot(9, 0, 0, 0)), time)
		wantError(t, time, e, api.ErrRange)
	}
}

// P1.1 and P1.7: the box is the least whole one around the exact point and its doubt, and grows with the doubt.
func TestBoxEncloses(t *testing.T) {
	r := rand.New(rand.NewSource(1))
	for range 300 {
		p := randomTrack(r, 30, 5)
		for time := range last(p) + 1 {
			b, e := path.BoxAt(p, time)
			wantError(t, p, e, api.OK)
			for j, side := range []api.Range{b.X, b.Y, b.Z} {
				x := pointAt(p, time)[j]
				if !encloses(side.Lo+p.Doubt, x, side.Hi-p.Doubt) {
					t.Fatal(p, time, b)
				}
			}
			wider := p
			wider.Doubt++
			w, _ := path.BoxAt(wider, time)
			if w.X.Lo > b.X.Lo || w.Y.Lo > b.Y.Lo || w.Z.Lo > b.Z.Lo || w.X.Hi < b.X.Hi || w.Y.Hi < b.Y.Hi || w.Z.Hi < b.Z.Hi {
				t.Fatal(p, time, b, w)
			}
		}
	}
}

// encloses says whether lo and hi are x, rounded down and up.
func encloses(lo int, x *big.Rat, hi int) bool {
	return whole(lo).Cmp(x) <= 0 && whole(lo+1).Cmp(x) > 0 && whole(hi).Cmp(x) >= 0 && whole(hi-1).Cmp(x) < 0
}

// P1.6: the string of any track, valid or not.
func TestFormatTrack(t *testing.T) {
	for want, p := range map[string]api.PathTrack{
		"3;0 300 400 0;1000 600 800 0": probe(3),
		"0":                            {},
		"-5;7 -1 -20 0":                track(-5, knot(7, -1, -20, 0)),
		"-9223372036854775808;9223372036854775807 0 0 0": track(math.MinInt, knot(math.MaxInt, 0, 0, 0)),
	} {
		if s := path.FormatTrack(p); s != want {
			t.Error(s, want)
		}
	}
}

// P1.6: the errors of strings, in their order.
func TestParseTrack(t *testing.T) {
	knots := func(n int) string { return "0" + strings.Repeat(";0 0 0 0", n) }
	for s, want := range map[string]api.Errno{
		"":                                      api.ErrSyntax,
		";0 0 0 0":                              api.ErrSyntax,
		"0;":                                    api.ErrSyntax,
		"0;0 0 0 0;":                            api.ErrSyntax,
		"0;;0 0 0 0":                            api.ErrSyntax,
		"3;0 300 400":                           api.ErrSyntax,
		"3;0 300 400 0 0":                       api.ErrSyntax,
		"3;0  300 400 0":                        api.ErrSyntax,
		"3;0 300 400 0 ":                        api.ErrSyntax,
		" 3;0 300 400 0":                        api.ErrSyntax,
		"3;0\t300 400 0":                        api.ErrSyntax,
		"3;0 300 400 0\n":                       api.ErrSyntax,
		"-3;0 0 0 0":                            api.ErrSyntax,
		"+3;0 0 0 0":                            api.ErrSyntax,
		"03;0 0 0 0":                            api.ErrSyntax,
		"0;-1 0 0 0":                            api.ErrSyntax,
		"0;00 0 0 0":                            api.ErrSyntax,
		"0;0 -0 0 0":                            api.ErrSyntax,
		"0;0 +1 0 0":                            api.ErrSyntax,
		"0;0 01 0 0":                            api.ErrSyntax,
		"0;0 -01 0 0":                           api.ErrSyntax,
		"0;0 - 0 0":                             api.ErrSyntax,
		"0;0 --1 0 0":                           api.ErrSyntax,
		"0;0 1_0 0 0":                           api.ErrSyntax,
		"0;0 0x1 0 0":                           api.ErrSyntax,
		"0;0 \u0661 0 0":                        api.ErrSyntax, // a digit that is not one of ASCII
		"0;0 12345678 0 0":                      api.ErrSyntax,
		"0;0 -12345678 0 0":                     api.ErrSyntax,
		"0;12345678901234 0 0 0":                api.ErrSyntax,
		"12345678901234;0 0 0 0":                api.ErrSyntax,
		"1001;5 0 0 0;5 0 0":                    api.ErrSyntax, // before the errors of the track
		"0":                                     api.ErrShape,
		"9999999999999":                         api.ErrShape,
		knots(13):                               api.ErrLarge,
		"0;9999999999999 0 0 0":                 api.ErrRange,
		"0;0 9999999 0 0":                       api.ErrRange,
		"0;0 0 0 -9999999":                      api.ErrRange,
		"9999999999999;0 0 0 0":                 api.ErrRange,
		"0;5 0 0 0;5 0 0 0":                     api.ErrOrder,
		"0;0 0 0 0;10001 0 0 0":                 api.ErrGap,
		"0;0 0 0 0;1 1 0 0":                     api.ErrBreak,
		strings.Repeat("x", 60001):              api.ErrLarge,
		strings.Repeat("x", 60000):              api.ErrSyntax,
		"1000;1000000000000 1000000 -1000000 0": api.OK,
	} {
		p, e := path.ParseTrack(s)
		wantError(t, s, e, want)
		if e != api.OK && (p.Doubt != 0 || len(p.Knots) != 0) {
			t.Error(s, p)
		}
	}
}

// P1.13: a track comes back from its string.
func TestParseReverses(t *testing.T) {
	r := rand.New(rand.NewSource(2))
	for range 500 {
		p := randomTrack(r, api.MaxPathPosition-100, api.MaxPathDoubt)
		if back, e := path.ParseTrack(path.FormatTrack(p)); e != api.OK || !reflect.DeepEqual(back, p) {
			t.Fatal(p, back, e)
		}
	}
}
