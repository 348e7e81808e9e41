package path_test

import (
	"math"
	"math/rand"
	"testing"

	"cassegrain/api"
	"cassegrain/path"
)

// P1.2: examples 2 and 4.
func TestDistanceAt(t *testing.T) {
	const far = api.MaxPathPosition
	corner := track(1000, knot(0, far, far, far), knot(9999, far, far, far-1))
	opposite := track(1000, knot(0, -far, -far, -far), knot(9998, -far, -far, 1-far))
	for _, c := range []struct {
		a, b api.PathTrack
		time int
		want api.Range
	}{
		{station(), probe(0), 0, span(500, 500)},
		{station(), probe(0), 500, span(750, 750)},
		{station(), probe(0), 1, span(500, 501)},
		{station(), probe(3), 0, span(495, 505)},
		{probe(3), station(), 0, span(495, 505)},
		{probe(0), probe(0), 77, span(0, 0)},
		{probe(1), probe(1), 0, span(0, 4)},           // 2 in each coordinate: the root of 12
		{corner, opposite, 0, span(3460637, 3467566)}, // the roots of 3 times 1998000 and 2002000 squared
		{corner, opposite, 1, span(3460637, 3467566)},
	} {
		if d, e := path.DistanceAt(c.a, c.b, c.time); e != api.OK || d != c.want {
			t.Error(c.a, c.b, c.time, d, e)
		}
	}
}

func TestDistanceAtErrors(t *testing.T) {
	for want, p := range invalid() {
		for _, c := range [][2]api.PathTrack{{p, probe(-1)}, {probe(0), p}} {
			d, e := path.DistanceAt(c[0], c[1], -1)
			wantError(t, c, e, want)
			if d != (api.Range{}) {
				t.Error(c, d)
			}
		}
	}
	for _, c := range [][2]api.PathTrack{{short(), probe(0)}, {probe(0), short()}} {
		for time, want := range map[int]api.Errno{-1: api.ErrRange, 0: api.OK, 10: api.OK, 11: api.ErrRange} {
			_, e := path.DistanceAt(c[0], c[1], time)
			wantError(t, time, e, want)
		}
	}
}

// P1.2: example 2, and a change whose ends are enclosures.
func TestChangeOf(t *testing.T) {
	for _, c := range []struct {
		doubt int
		times [2]int
		want  api.Range
	}{
		{0, [2]int{0, 500}, span(250, 250)},
		{0, [2]int{0, 1}, span(0, 1)},
		{0, [2]int{1, 1}, span(-1, 1)},
		{3, [2]int{0, 0}, span(-10, 10)},
	} {
		if d, e := path.ChangeOf(station(), probe(c.doubt), c.times); e != api.OK || d != c.want {
			t.Error(c, d, e)
		}
	}
}

func TestChangeOfErrors(t *testing.T) {
	for want, p := range invalid() {
		_, e := path.ChangeOf(p, probe(-1), [2]int{-1, -2})
		wantError(t, p, e, want)
		_, e = path.ChangeOf(probe(0), p, [2]int{-1, -2})
		wantError(t, p, e, want)
	}
	for _, c := range []struct {
		times [2]int
		want  api.Errno
	}{
		{[2]int{-1, 0}, api.ErrRange},
		{[2]int{0, 1001}, api.ErrRange},
		{[2]int{11, 0}, api.ErrRange}, // a time of one of both tracks only, and before the order
		{[2]int{0, 11}, api.ErrRange},
		{[2]int{5, 4}, api.ErrOrder},
		{[2]int{math.MaxInt, math.MinInt}, api.ErrRange},
	} {
		d, e := path.ChangeOf(short(), probe(0), c.times)
		wantError(t, c.times, e, c.want)
		if d != (api.Range{}) {
			t.Error(c.times, d)
		}
	}
}

// P1.2 and P1.7: distances are the exact ones, rounded, and a greater doubt gives no narrower range.
func TestDistancesExact(t *testing.T) {
	r := rand.New(rand.NewSource(3))
	for range 200 {
		a, b := randomTrack(r, 40, 6), randomTrack(r, 40, 6)
		for time := range min(last(a), last(b)) + 1 {
			d, e := path.DistanceAt(a, b, time)
			wantError(t, time, e, api.OK)
			lo, hi := squaresAt(a, b, [2]int{time, time})
			if whole(d.Lo*d.Lo).Cmp(lo) > 0 || whole((d.Lo+1)*(d.Lo+1)).Cmp(lo) <= 0 {
				t.Fatal(a, b, time, d, lo)
			}
			if whole(d.Hi*d.Hi).Cmp(hi) < 0 || d.Hi > 0 && whole((d.Hi-1)*(d.Hi-1)).Cmp(hi) >= 0 {
				t.Fatal(a, b, time, d, hi)
			}
			wider := a
			wider.Doubt++
			if w, _ := path.DistanceAt(wider, b, time); w.Lo > d.Lo || w.Hi < d.Hi {
				t.Fatal(a, b, time, d, w)
			}
			change, e := path.ChangeOf(a, b, [2]int{0, time})
			first, _ := path.DistanceAt(a, b, 0)
			if e != api.OK || change != span(d.Lo-first.Hi, d.Hi-first.Lo) {
				t.Fatal(a, b, time, change, e)
			}
		}
	}
}

// P1.2: the numbers of the largest tracks are exact, too.
func TestDistancesLarge(t *testing.T) {
	r := rand.New(rand.NewSource(4))
	const far = api.MaxPathPosition
	largest := func() api.PathTrack {
		p := track(r.Intn(api.MaxPathDoubt+1), knot(0, 0, 0, 0), knot(api.MaxPathPiece-r.Intn(2), 0, 0, 0))
		for i := range p.Knots {
			p.Knots[i].Position = api.Point{X: far - r.Intn(2000), Y: far - r.Intn(2000), Z: r.Intn(2000) - far}
		}
		return p
	}
	for range 200 {
		a, b := largest(), largest()
		for i := range b.Knots {
			x := &b.Knots[i].Position
			*x = api.Point{X: -x.X, Y: -x.Y, Z: -x.Z}
		}
		time := r.Intn(api.MaxPathPiece - 1)
		d, e := path.DistanceAt(a, b, time)
		lo, hi := squaresAt(a, b, [2]int{time, time})
		if e != api.OK || whole(d.Lo*d.Lo).Cmp(lo) > 0 || whole((d.Lo+1)*(d.Lo+1)).Cmp(lo) <= 0 ||
			whole(d.Hi*d.Hi).Cmp(hi) < 0 || whole((d.Hi-1)*(d.Hi-1)).Cmp(hi) >= 0 {
			t.Fatal(a, b, time, d, e)
		}
	}
}

// P1.10: the triangle of three tracks.
func TestTriangle(t *testing.T) {
	r := rand.New(rand.NewSource(5))
	for range 300 {
		a, b, c := randomTrack(r, 40, 6), randomTrack(r, 40, 6), randomTrack(r, 40, 6)
		for time := range min(last(a), last(b), last(c)) + 1 {
			ab, _ := path.DistanceAt(a, b, time)
			ac, _ := path.DistanceAt(a, c, time)
			bc, _ := path.DistanceAt(b, c, time)
			if ab.Lo > ac.Hi+bc.Hi || ac.Lo > ab.Hi+bc.Hi || bc.Lo > ab.Hi+ac.Hi {
				t.Fatal(a, b, c, time, ab, ac, bc)
			}
		}
	}
}
