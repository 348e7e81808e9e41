package path_test

import (
	"math/big"
	"math/rand"
	"testing"

	"cassegrain/api"
)

// The tests compare the package with the definitions of the chapter, which this file computes slowly, in exact fractions.

// station returns the track a of the chapter's examples, probe the track b with a doubt.
func station() api.PathTrack {
	return api.PathTrack{Knots: []api.PathKnot{knot(0, 0, 0, 0), knot(1000, 0, 0, 0)}}
}

func probe(doubt int) api.PathTrack {
	return api.PathTrack{Knots: []api.PathKnot{knot(0, 300, 400, 0), knot(1000, 600, 800, 0)}, Doubt: doubt}
}

// short returns the track b until the time 10 only.
func short() api.PathTrack {
	return api.PathTrack{Knots: []api.PathKnot{knot(0, 300, 400, 0), knot(10, 303, 404, 0)}}
}

func knot(time, x, y, z int) api.PathKnot {
	return api.PathKnot{Time: time, Position: api.Point{X: x, Y: y, Z: z}}
}

func span(lo, hi int) api.Range {
	return api.Range{Lo: lo, Hi: hi}
}

// invalid returns a track for each error of CheckTrack.
func invalid() map[api.Errno]api.PathTrack {
	return map[api.Errno]api.PathTrack{
		api.ErrShape: {},
		api.ErrLarge: {Knots: make([]api.PathKnot, api.MaxPathKnots+1)},
		api.ErrRange: {Knots: []api.PathKnot{knot(-1, 0, 0, 0)}},
		api.ErrOrder: {Knots: []api.PathKnot{knot(5, 0, 0, 0), knot(5, 0, 0, 0)}},
		api.ErrGap:   {Knots: []api.PathKnot{knot(0, 0, 0, 0), knot(api.MaxPathPiece+1, 0, 0, 0)}},
		api.ErrBreak: {Knots: []api.PathKnot{knot(0, 0, 0, 0), knot(10, 6, 0, 0)}},
	}
}

// randomTrack returns a valid track of a few pieces from the time 0 on, near the origin.
func randomTrack(r *rand.Rand, reach, maxDoubt int) api.PathTrack {
	p := api.PathTrack{Doubt: r.Intn(maxDoubt + 1)}
	at := knot(0, r.Intn(2*reach+1)-reach, r.Intn(2*reach+1)-reach, r.Intn(2*reach+1)-reach)
	p.Knots = append(p.Knots, at)
	for range r.Intn(4) {
		elapsed := 1 + r.Intn(60)
		step := elapsed / 4 // the square of twice the distance is at most 3/4 of that of the time
		at.Time += elapsed
		at.Position.X += r.Intn(2*step+1) - step
		at.Position.Y += r.Intn(2*step+1) - step
		at.Position.Z += r.Intn(2*step+1) - step
		p.Knots = append(p.Knots, at)
	}
	return p
}

func last(p api.PathTrack) int {
	return p.Knots[len(p.Knots)-1].Time
}

func whole(n int) *big.Rat {
	return new(big.Rat).SetInt64(int64(n))
}

// pointAt returns the point of a track by the definition: on the straight line from each knot to the next one.
func pointAt(p api.PathTrack, time int) [3]*big.Rat {
	for i, k := range p.Knots {
		at := [3]int{k.Position.X, k.Position.Y, k.Position.Z}
		if k.Time == time {
			return [3]*big.Rat{whole(at[0]), whole(at[1]), whole(at[2])}
		}
		if i+1 == len(p.Knots) || time > p.Knots[i+1].Time {
			continue
		}
		next := p.Knots[i+1]
		to := [3]int{next.Position.X, next.Position.Y, next.Position.Z}
		share := big.NewRat(int64(time-k.Time), int64(next.Time-k.Time))
		var x [3]*big.Rat
		for j := range x {
			x[j] = whole(to[j] - at[j])
			x[j].Mul(x[j], share).Add(x[j], whole(at[j]))
		}
		return x
	}
	panic("not a time of the track")
}

// vectorAt returns the vector from a's point to b's point.
func vectorAt(a, b api.PathTrack, times [2]int) [3]*big.Rat {
	from, to := pointAt(a, times[0]), pointAt(b, times[1])
	for j := range to {
		to[j].Sub(to[j], from[j])
	}
	return to
}

// squaresAt returns the squares of the minimum and of the maximum distance.
func squaresAt(a, b api.PathTrack, times [2]int) (*big.Rat, *big.Rat) {
	lo, hi := new(big.Rat), new(big.Rat)
	for _, x := range vectorAt(a, b, times) {
		x.Abs(x)
		far := new(big.Rat).Add(x, whole(a.Doubt+b.Doubt))
		near := new(big.Rat).Sub(x, whole(a.Doubt+b.Doubt))
		if near.Sign() < 0 {
			near = new(big.Rat)
		}
		lo.Add(lo, near.Mul(near, near))
		hi.Add(hi, far.Mul(far, far))
	}
	return lo, hi
}

// arrived and notArrived are the definitions of what a signal surely has done.
func arrived(a, b api.PathTrack, s, r int) bool {
	_, hi := squaresAt(a, b, [2]int{s, r})
	return r >= s && whole((r-s)*(r-s)).Cmp(hi) >= 0
}

func notArrived(a, b api.PathTrack, s, r int) bool {
	lo, _ := squaresAt(a, b, [2]int{s, r})
	return r >= s && whole((r-s)*(r-s)).Cmp(lo) < 0
}

func product(v [3]*big.Rat, axis api.Vector) *big.Rat {
	sum := new(big.Rat)
	for j, n := range [3]int{axis.X, axis.Y, axis.Z} {
		sum.Add(sum, new(big.Rat).Mul(v[j], whole(n)))
	}
	return sum
}

// sizes returns the sum of the sizes of the components.
func sizes(v api.Vector) int {
	return max(v.X, -v.X) + max(v.Y, -v.Y) + max(v.Z, -v.Z)
}

// wantError reports an error that differs from the wanted one.
func wantError(t *testing.T, what any, got, want api.Errno) {
	t.Helper()
	if got != want {
		t.Errorf("%v: error %d, want %d", what, got, want)
	}
}
