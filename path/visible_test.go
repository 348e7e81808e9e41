package path_test

import (
	"math"
	"math/big"
	"math/rand"
	"reflect"
	"testing"

	"cassegrain/api"
	"cassegrain/path"
)

func cone(x, y, z, num, den int) api.PathCone {
	return api.PathCone{Axis: api.Vector{X: x, Y: y, Z: z}, Num: num, Den: den}
}

// view returns the view of the chapter's examples, with cones.
func view(doubt int, cones ...api.PathCone) api.PathView {
	return api.PathView{Site: api.PathSite{Up: api.Vector{Z: 1}, Cones: cones}, Station: station(), Probe: probe(doubt)}
}

// P1.4: each error with its index, the limits, and the order of the errors.
func TestCheckSite(t *testing.T) {
	up := api.Vector{X: 100, Y: -100, Z: 100}
	fine, bad := cone(100, -100, 1, 100, 100), cone(0, 0, 0, 0, 1)
	for name, c := range map[string]struct {
		up    api.Vector
		cones []api.PathCone
		index int
		e     api.Errno
	}{
		"no cones":            {up, nil, 0, api.OK},
		"most cones":          {up, []api.PathCone{fine, fine, fine, cone(1, 0, 0, 0, 1)}, 0, api.OK},
		"x of up":             {api.Vector{X: 101}, []api.PathCone{bad}, 0, api.ErrRange},
		"y of up":             {api.Vector{Y: -101}, nil, 0, api.ErrRange},
		"z of up":             {api.Vector{Z: math.MinInt}, nil, 0, api.ErrRange},
		"up is 0":             {api.Vector{}, []api.PathCone{bad, bad, bad, bad, bad}, 0, api.ErrZero},
		"too many cones":      {up, []api.PathCone{bad, bad, bad, bad, bad}, 0, api.ErrLarge},
		"axis is 0":           {up, []api.PathCone{fine, bad}, 1, api.ErrZero},
		"x of an axis":        {up, []api.PathCone{fine, fine, cone(101, 0, 0, 1, 1)}, 2, api.ErrRange},
		"y of an axis":        {up, []api.PathCone{cone(0, math.MaxInt, 0, 1, 1)}, 0, api.ErrRange},
		"z of an axis":        {up, []api.PathCone{cone(0, 0, -101, 1, 1)}, 0, api.ErrRange},
		"axis before parts":   {up, []api.PathCone{cone(0, 0, 0, 2, 0)}, 0, api.ErrZero},
		"den is 0":            {up, []api.PathCone{fine, cone(1, 0, 0, 0, 0)}, 1, api.ErrRange},
		"den too large":       {up, []api.PathCone{cone(1, 0, 0, 0, 101)}, 0, api.ErrRange},
		"num below 0":         {up, []api.PathCone{cone(1, 0, 0, -1, 1)}, 0, api.ErrRange},
		"num greater":         {up, []api.PathCone{cone(1, 0, 0, 51, 50)}, 0, api.ErrRange},
		"cone by cone":        {up, []api.PathCone{fine, cone(1, 0, 0, 2, 1), bad}, 1, api.ErrRange},
		"the first bad index": {up, []api.PathCone{fine, bad, cone(101, 0, 0, 1, 1)}, 1, api.ErrZero},
	} {
		if n, e := path.CheckSite(api.PathSite{Up: c.up, Cones: c.cones}); n != c.index || e != c.e {
			t.Errorf("%s: %d, error %d", name, n, e)
		}
	}
}

// P1.4: example 5, and the edge cases of horizon and cones.
func TestVisibleAt(t *testing.T) {
	at := func(x, y, z, doubt int) api.PathView {
		v := view(0)
		v.Probe = track(doubt, knot(0, x, y, z))
		return v
	}
	with := func(v api.PathView, cones ...api.PathCone) api.PathView {
		v.Site.Cones = cones
		return v
	}
	all, half := cone(3, 4, 0, 1, 1), cone(3, 4, 0, 0, 1)
	for name, c := range map[string]struct {
		v    api.PathView
		want int
	}{
		"in the horizon":            {view(0), api.AnswerYes},
		"perhaps below":             {view(3), api.AnswerMaybe},
		"hidden by a cone":          {view(0, cone(3, 4, 0, 99, 100)), api.AnswerNo},
		"below":                     {at(0, 0, -1, 0), api.AnswerNo},
		"below in spite of doubt":   {at(0, 0, -2, 1), api.AnswerNo},
		"perhaps in the horizon":    {at(0, 0, -2, 2), api.AnswerMaybe},
		"above in spite of doubt":   {at(0, 0, 2, 2), api.AnswerYes},
		"a cone that hides nothing": {view(0, all), api.AnswerYes},
		"a half space":              {view(0, half), api.AnswerNo},
		"the other half space":      {view(0, cone(-3, -4, 0, 0, 1)), api.AnswerYes},
		"across a half space":       {view(0, cone(4, -3, 0, 0, 1)), api.AnswerYes},
		"the second cone":           {view(0, all, half), api.AnswerNo},
		"the station's place":       {with(at(0, 0, 0, 0), all, half), api.AnswerYes},
		"perhaps the same place":    {with(at(0, 0, 1, 1), half), api.AnswerMaybe},
		"on the edge of a cone":     {with(at(3, 4, 0, 0), cone(1, 0, 0, 9, 25)), api.AnswerYes},
		"inside a cone":             {with(at(3, 4, 0, 0), cone(1, 0, 0, 8, 25)), api.AnswerNo},
		"perhaps inside":            {with(at(300, 400, 5, 1), cone(1, 0, 0, 36, 100)), api.AnswerMaybe},
		"surely inside":             {with(at(300, 400, 5, 1), cone(1, 0, 0, 35, 100)), api.AnswerNo},
		"surely outside":            {with(at(300, 400, 5, 1), cone(1, 0, 0, 37, 100)), api.AnswerYes},
		"perhaps low, but hidden":   {with(at(3, 4, 0, 1), cone(3, 4, 0, 1, 100)), api.AnswerNo},
	} {
		if n, e := path.VisibleAt(c.v, 0); e != api.OK || n != c.want {
			t.Errorf("%s: %d, error %d", name, n, e)
		}
	}
}

// wantViewErrors asks about views with errors: those of the site come first, those of the probe last.
func wantViewErrors(t *testing.T, ask func(api.PathView) api.Errno) {
	t.Helper()
	bad := track(0)
	v := view(0, cone(1, 0, 0, 2, 1))
	v.Site.Up = api.Vector{}
	v.Station, v.Probe = bad, bad
	wantError(t, "up", ask(v), api.ErrZero)
	v.Site.Up.X = 1
	wantError(t, "a cone", ask(v), api.ErrRange)
	v.Site.Cones = nil
	for want, p := range invalid() {
		v.Station, v.Probe = p, bad
		wantError(t, "station", ask(v), want)
		v.Station, v.Probe = station(), p
		wantError(t, "probe", ask(v), want)
	}
}

func TestVisibleAtErrors(t *testing.T) {
	wantViewErrors(t, func(v api.PathView) api.Errno {
		n, e := path.VisibleAt(v, -1)
		if n != 0 {
			t.Error(v, n)
		}
		return e
	})
	for time, want := range map[int]api.Errno{-1: api.ErrRange, 0: api.OK, 10: api.OK, 11: api.ErrRange, math.MinInt: api.ErrRange, math.MaxInt: api.ErrRange} {
		v := view(0)
		v.Probe = short()
		_, e := path.VisibleAt(v, time)
		wantError(t, time, e, want)
		v.Station, v.Probe = short(), station()
		_, e = path.VisibleAt(v, time)
		wantError(t, time, e, want)
	}
}

// randomView returns a view with cones and low precision, such that all answers occur.
func randomView(r *rand.Rand) api.PathView {
	v := api.PathView{Station: randomTrack(r, 12, 2), Probe: randomTrack(r, 12, 2)}
	axis := func() api.Vector {
		return api.Vector{X: r.Intn(7) - 3, Y: r.Intn(7) - 3, Z: 1 + r.Intn(3)}
	}
	v.Site.Up = axis()
	for range r.Intn(3) {
		den := 1 + r.Intn(100)
		v.Site.Cones = append(v.Site.Cones, api.PathCone{Axis: axis(), Num: r.Intn(den + 1), Den: den})
	}
	return v
}

// answer is the answer by the definition.
func answer(v api.PathView, time int) int {
	x := vectorAt(v.Station, v.Probe, [2]int{time, time})
	lo, hi := squaresAt(v.Station, v.Probe, [2]int{time, time})
	d := v.Station.Doubt + v.Probe.Doubt
	doubt := whole(d * sizes(v.Site.Up))
	up := product(x, v.Site.Up)
	yes := new(big.Rat).Sub(up, doubt).Sign() >= 0
	no := new(big.Rat).Add(up, doubt).Sign() < 0
	for _, c := range v.Site.Cones {
		doubt = whole(d * sizes(c.Axis))
		yes = yes && !inside(c, new(big.Rat).Add(product(x, c.Axis), doubt), lo)
		no = no || inside(c, new(big.Rat).Sub(product(x, c.Axis), doubt), hi)
	}
	switch {
	case yes:
		return api.AnswerYes
	case no:
		return api.AnswerNo
	}
	return api.AnswerMaybe
}

// inside says whether q is above 0, and q times q times Den greater than Num times the squares of the axis and of the length.
func inside(c api.PathCone, q, square *big.Rat) bool {
	left := new(big.Rat).Mul(q, q)
	left.Mul(left, whole(c.Den))
	axis := c.Axis.X*c.Axis.X + c.Axis.Y*c.Axis.Y + c.Axis.Z*c.Axis.Z
	return q.Sign() > 0 && left.Cmp(new(big.Rat).Mul(whole(c.Num*axis), square)) > 0
}

// P1.4: the answers are those of the definition.
func TestVisibleExact(t *testing.T) {
	r := rand.New(rand.NewSource(7))
	var seen [3]int
	for range 300 {
		v := randomView(r)
		for time := range min(last(v.Station), last(v.Probe)) + 1 {
			n, e := path.VisibleAt(v, time)
			if want := answer(v, time); e != api.OK || n != want {
				t.Fatal(v, time, n, e, want)
			}
			seen[n]++
		}
	}
	if seen[api.AnswerNo] == 0 || seen[api.AnswerMaybe] == 0 || seen[api.AnswerYes] == 0 {
		t.Error("an answer did not occur", seen)
	}
}

// P1.4: a sure answer holds for true positions, whichever they are.
func TestVisibleTrue(t *testing.T) {
	r := rand.New(rand.NewSource(8))
	for range 500 {
		v := randomView(r)
		n, _ := path.VisibleAt(v, 0)
		for range 20 {
			truth := v
			truth.Station = displaced(r, v.Station)
			truth.Probe = displaced(r, v.Probe)
			if m, e := path.VisibleAt(truth, 0); e != api.OK || m == api.AnswerMaybe || n != api.AnswerMaybe && m != n {
				t.Fatal(v, truth, n, m, e)
			}
		}
	}
}

// displaced returns a track without doubt at a true position at the time 0.
func displaced(r *rand.Rand, p api.PathTrack) api.PathTrack {
	at := p.Knots[0]
	at.Position.X += r.Intn(2*p.Doubt+1) - p.Doubt
	at.Position.Y += r.Intn(2*p.Doubt+1) - p.Doubt
	at.Position.Z += r.Intn(2*p.Doubt+1) - p.Doubt
	return track(0, at)
}

// P1.4: products of the largest numbers are exact, too.
func TestVisibleLarge(t *testing.T) {
	r := rand.New(rand.NewSource(9))
	const far = api.MaxPathPosition
	largest := func(sign int) api.PathTrack {
		p := track(r.Intn(3)*500, knot(0, 0, 0, 0), knot(api.MaxPathPiece-r.Intn(2), 0, 0, 0))
		for i := range p.Knots {
			p.Knots[i].Position = api.Point{X: sign * (far - r.Intn(2000)), Y: sign * (far - r.Intn(2000)), Z: sign * (far - r.Intn(2000))}
		}
		return p
	}
	for range 500 {
		v := api.PathView{Station: largest(-1), Probe: largest(1)}
		v.Site.Up = api.Vector{X: 100, Y: 100, Z: -100}
		v.Site.Cones = []api.PathCone{cone(100, 100, 100-r.Intn(20), 100-r.Intn(3), 100)}
		time := r.Intn(api.MaxPathPiece - 1)
		if n, e := path.VisibleAt(v, time); e != api.OK || n != answer(v, time) {
			t.Fatal(v, time, n, e)
		}
	}
}

// P1.4: example 5, and a probe that crosses the horizon with and without a doubt.
func TestWindows(t *testing.T) {
	grid := func(from, step, count int) api.PathGrid {
		return api.PathGrid{From: from, Step: step, Count: count}
	}
	rising := view(0)
	rising.Probe = track(0, knot(0, 0, 0, -50), knot(200, 0, 0, 50))
	doubtful := rising
	doubtful.Probe.Doubt = 10
	back := rising
	back.Probe.Knots = append([]api.PathKnot{}, rising.Probe.Knots...)
	back.Probe.Knots = append(back.Probe.Knots, knot(400, 0, 0, -50))
	for name, c := range map[string]struct {
		v    api.PathView
		g    api.PathGrid
		want []api.PathWindow
	}{
		"one":      {view(0, cone(3, 4, 0, 99, 100)), grid(0, 100, 11), []api.PathWindow{{Answer: api.AnswerNo, Last: 10}}},
		"rising":   {rising, grid(0, 20, 11), []api.PathWindow{{Answer: api.AnswerNo, Last: 4}, {Answer: api.AnswerYes, First: 5, Last: 10}}},
		"doubtful": {doubtful, grid(0, 20, 11), []api.PathWindow{{Answer: api.AnswerNo, Last: 3}, {Answer: api.AnswerMaybe, First: 4, Last: 5}, {Answer: api.AnswerYes, First: 6, Last: 10}}},
		"back":     {back, grid(50, 50, 7), []api.PathWindow{{Answer: api.AnswerNo}, {Answer: api.AnswerYes, First: 1, Last: 5}, {Answer: api.AnswerNo, First: 6, Last: 6}}},
		"one time": {rising, grid(100, 10000, 1), []api.PathWindow{{Answer: api.AnswerYes}}},
	} {
		if l, e := path.Windows(c.v, c.g); e != api.OK || !reflect.DeepEqual(l, c.want) {
			t.Error(name, l, e)
		}
	}
}

func TestWindowsErrors(t *testing.T) {
	wantViewErrors(t, func(v api.PathView) api.Errno {
		l, e := path.Windows(v, api.PathGrid{})
		if len(l) != 0 {
			t.Error(v, l)
		}
		return e
	})
	late := view(0)
	late.Probe = track(0, knot(500, 0, 0, 0), knot(900, 0, 0, 0))
	for _, c := range []struct {
		from, step, count int
		want              api.Errno
	}{
		{500, 1, 1, api.OK},
		{500, 10000, 1, api.OK},
		{500, 2, 200, api.OK},
		{500, 2, 201, api.ErrRange},
		{500, 0, 1, api.ErrRange},
		{500, -1, 1, api.ErrRange},
		{500, 10001, 1, api.ErrRange},
		{500, 1, 0, api.ErrRange},
		{500, 1, -1, api.ErrRange},
		{500, math.MaxInt, math.MaxInt, api.ErrRange},
		{499, 1, 2, api.ErrRange},
		{500, 100, 5, api.OK},
		{500, 100, 6, api.ErrRange},
		{900, 1, 1, api.OK},
		{901, 1, 1, api.ErrRange},
		{math.MaxInt, 1, 200, api.ErrRange},
		{math.MinInt, 1, 200, api.ErrRange},
	} {
		g := api.PathGrid{From: c.from, Step: c.step, Count: c.count}
		l, e := path.Windows(late, g)
		wantError(t, g, e, c.want)
		if e != api.OK && len(l) != 0 {
			t.Error(g, l)
		}
		swapped := late
		swapped.Station, swapped.Probe = late.Probe, late.Station
		_, e = path.Windows(swapped, g)
		wantError(t, g, e, c.want)
	}
}

// P1.11: windows follow one another, have the answers of their times, and neighbouring ones differ.
func TestWindowsFollow(t *testing.T) {
	r := rand.New(rand.NewSource(10))
	for range 500 {
		v := randomView(r)
		g := api.PathGrid{Step: 1 + r.Intn(3)}
		g.Count = 1 + min(last(v.Station), last(v.Probe))/g.Step
		l, e := path.Windows(v, g)
		wantError(t, v, e, api.OK)
		next := 0
		for i, w := range l {
			if w.First != next || w.Last < w.First || i > 0 && w.Answer == l[i-1].Answer {
				t.Fatal(v, g, l)
			}
			for n := w.First; n <= w.Last; n++ {
				if a, _ := path.VisibleAt(v, n*g.Step); a != w.Answer {
					t.Fatal(v, g, l, n, a)
				}
			}
			next = w.Last + 1
		}
		if next != g.Count {
			t.Fatal(v, g, l)
		}
	}
}
