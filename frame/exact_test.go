package frame_test

import (
	"math"
	"math/big"
	"math/rand"
	"slices"
	"testing"

	"cassegrain/api"
)

// The tests compare the package with the definitions of the chapter, which this file computes slowly: byte by byte, and in exact fractions.

// wantError reports an error that differs from the wanted one.
func wantError(t *testing.T, what any, got, want api.Errno) {
	t.Helper()
	if got != want {
		t.Errorf("%v: error %d, want %d", what, got, want)
	}
}

// wantNumber reports a number or an error that differs from the wanted one.
func wantNumber(t *testing.T, what any, got int, e api.Errno, want int) {
	t.Helper()
	wantError(t, what, e, api.OK)
	if got != want {
		t.Errorf("%v: %d, want %d", what, got, want)
	}
}

// wantSame reports a slice that differs from the wanted one; a nil slice is an empty one.
func wantSame[T comparable](t *testing.T, what any, got, want []T) {
	t.Helper()
	if !slices.Equal(got, want) {
		t.Errorf("%v: %v, want %v", what, got, want)
	}
}

// wantSlice reports a slice or an error that differs from the wanted one.
func wantSlice[T comparable](t *testing.T, what any, got []T, e api.Errno, want []T) {
	t.Helper()
	wantError(t, what, e, api.OK)
	wantSame(t, what, got, want)
}

func sameFrame(a, b api.FrameFrame) bool {
	return a.Channel == b.Channel && a.Count == b.Count && a.First == b.First && slices.Equal(a.Data, b.Data)
}

func samePacket(a, b api.FramePacket) bool {
	return a.Identity == b.Identity && a.Count == b.Count && slices.Equal(a.Data, b.Data)
}

// wantFrame reports a frame or an error that differs from the wanted one.
func wantFrame(t *testing.T, what any, got api.FrameFrame, e api.Errno, want api.FrameFrame) {
	t.Helper()
	wantError(t, what, e, api.OK)
	if !sameFrame(got, want) {
		t.Errorf("%v: %v, want %v", what, got, want)
	}
}

// wantFrames reports frames or an error that differ from the wanted ones.
func wantFrames(t *testing.T, what any, got []api.FrameFrame, e api.Errno, want []api.FrameFrame) {
	t.Helper()
	wantError(t, what, e, api.OK)
	if !slices.EqualFunc(got, want, sameFrame) {
		t.Errorf("%v: %v, want %v", what, got, want)
	}
}

// wantPacket reports a packet or an error that differs from the wanted one.
func wantPacket(t *testing.T, what any, got api.FramePacket, e api.Errno, want api.FramePacket) {
	t.Helper()
	wantError(t, what, e, api.OK)
	if !samePacket(got, want) {
		t.Errorf("%v: %v, want %v", what, got, want)
	}
}

// wantPackets reports packets or an error that differ from the wanted ones.
func wantPackets(t *testing.T, what any, got []api.FramePacket, e api.Errno, want []api.FramePacket) {
	t.Helper()
	wantError(t, what, e, api.OK)
	if !slices.EqualFunc(got, want, samePacket) {
		t.Errorf("%v: %v, want %v", what, got, want)
	}
}

// wantNoFrame reports an error that differs from the wanted one, and a frame beside it.
func wantNoFrame(t *testing.T, what any, got api.FrameFrame, e, want api.Errno) {
	t.Helper()
	wantError(t, what, e, want)
	if !sameFrame(got, api.FrameFrame{}) {
		t.Errorf("%v: %v beside an error", what, got)
	}
}

// wantNoPacket reports an error that differs from the wanted one, and a packet beside it.
func wantNoPacket(t *testing.T, what any, got api.FramePacket, e, want api.Errno) {
	t.Helper()
	wantError(t, what, e, want)
	if !samePacket(got, api.FramePacket{}) {
		t.Errorf("%v: %v beside an error", what, got)
	}
}

// wantNothing reports an error that differs from the wanted one, and a slice with items, or a number, beside it.
func wantNothing(t *testing.T, what any, length int, e, want api.Errno) {
	t.Helper()
	wantError(t, what, e, want)
	if length != 0 {
		t.Errorf("%v: %d beside an error", what, length)
	}
}

// wantSeparate writes into slices, also beyond their ends, first into the last one and then into the first one, and reports those that share memory.
func wantSeparate(t *testing.T, what any, l [][]int) {
	t.Helper()
	for range 2 {
		slices.Reverse(l)
		for i, data := range l {
			whole := data[:cap(data)]
			copy(whole, repeated(i, len(whole)))
		}
		for i, data := range l {
			if slices.ContainsFunc(data, func(n int) bool { return n != i }) {
				t.Errorf("%v: %d shares memory", what, i)
			}
		}
	}
}

// dataOf returns the data of frames.
func dataOf(l []api.FrameFrame) [][]int {
	var out [][]int
	for _, f := range l {
		out = append(out, f.Data)
	}
	return out
}

// between returns a random number from lo to hi.
func between(r *rand.Rand, lo, hi int) int {
	return lo + r.Intn(hi-lo+1)
}

// numbers returns random numbers from lo to hi.
func numbers(r *rand.Rand, count, lo, hi int) []int {
	l := make([]int, count)
	for i := range l {
		l[i] = between(r, lo, hi)
	}
	return l
}

// badNumbers returns numbers that are not from lo to hi.
func badNumbers(lo, hi int) []int {
	return []int{math.MinInt, lo - 1000, lo - 1, hi + 1, hi + 1000, math.MaxInt}
}

// repeated returns a slice with so many equal items.
func repeated[T any](item T, count int) []T {
	return slices.Repeat([]T{item}, count)
}

// with returns a copy of a slice with another item at an index.
func with[T any](l []T, i int, item T) []T {
	l = slices.Clone(l)
	l[i] = item
	return l
}

func rules(length, channels int) api.FrameRules {
	return api.FrameRules{Length: length, Channels: channels}
}

// exampleRules are those of the chapter's examples.
func exampleRules() api.FrameRules {
	return rules(4, 2)
}

func newFrame(channel, count, first int, data ...int) api.FrameFrame {
	return api.FrameFrame{Channel: channel, Count: count, First: first, Data: data}
}

func newPacket(identity, count int, data ...int) api.FramePacket {
	return api.FramePacket{Identity: identity, Count: count, Data: data}
}

func newPair(count, lo, hi int) api.FramePair {
	return api.FramePair{Count: count, Time: api.Range{Lo: lo, Hi: hi}}
}

// cloneFrames returns frames that share no memory with others.
func cloneFrames(l []api.FrameFrame) []api.FrameFrame {
	l = slices.Clone(l)
	for i := range l {
		l[i].Data = slices.Clone(l[i].Data)
	}
	return l
}

// clonePackets returns packets that share no memory with others.
func clonePackets(l []api.FramePacket) []api.FramePacket {
	l = slices.Clone(l)
	for i := range l {
		l[i].Data = slices.Clone(l[i].Data)
	}
	return l
}

func randomRules(r *rand.Rand) api.FrameRules {
	return rules(between(r, 4, 24), between(r, 1, 4))
}

// randomFrame returns a valid frame.
func randomFrame(r *rand.Rand, x api.FrameRules) api.FrameFrame {
	first := r.Intn(x.Length + 1)
	if first == x.Length {
		first = 255
	}
	return newFrame(r.Intn(x.Channels), r.Intn(64), first, numbers(r, x.Length, 0, 255)...)
}

// randomPackets returns valid packets, some of which are idle, or empty.
func randomPackets(r *rand.Rand, count, longest int) []api.FramePacket {
	l := make([]api.FramePacket, count)
	for i := range l {
		l[i] = newPacket(r.Intn(256), r.Intn(256), numbers(r, r.Intn(longest+1), 0, 255)...)
		switch r.Intn(8) {
		case 0:
			l[i].Identity = 255
		case 1:
			l[i].Data = nil
		}
	}
	return l
}

// reported returns the packets that are not idle.
func reported(l []api.FramePacket) []api.FramePacket {
	var out []api.FramePacket
	for _, p := range l {
		if p.Identity != 255 {
			out = append(out, p)
		}
	}
	return out
}

// sumsByDefinition returns the sums of bytes: the byte i is in all second sums from its own one on.
func sumsByDefinition(b []int) [2]int {
	first, second := 1, len(b)
	for i, n := range b {
		first += n
		second += (len(b) - i) * n
	}
	return [2]int{first % 251, second % 251}
}

// encodedByDefinition returns the encoding of a frame.
func encodedByDefinition(f api.FrameFrame) []int {
	b := slices.Concat([]int{f.Channel, f.Count, f.First}, f.Data)
	s := sumsByDefinition(b)
	return slices.Concat(b, s[:])
}

// fieldsByDefinition returns the data fields of packets, with the packet of each byte; an idle packet that fills has the next number.
func fieldsByDefinition(length int, l []api.FramePacket) (data, owners [][]int) {
	var bytes, owner []int
	add := func(i int, p api.FramePacket) {
		encoding := slices.Concat([]int{p.Identity, p.Count, len(p.Data)}, p.Data)
		bytes = append(bytes, encoding...)
		owner = append(owner, repeated(i, len(encoding))...)
	}
	for i, p := range l {
		add(i, p)
	}
	if len(bytes)%length != 0 {
		fill := newPacket(255, 0)
		for (len(bytes)+3+len(fill.Data))%length != 0 {
			fill.Data = append(fill.Data, 0)
		}
		add(len(l), fill)
	}
	return slices.Collect(slices.Chunk(bytes, length)), slices.Collect(slices.Chunk(owner, length))
}

// packedByDefinition returns the frames with packets.
func packedByDefinition(x api.FrameRules, start api.FrameStart, l []api.FramePacket) []api.FrameFrame {
	var frames []api.FrameFrame
	data, owners := fieldsByDefinition(x.Length, l)
	last := -1 // the last packet that has begun
	for i := range data {
		f := newFrame(start.Channel, (start.Count+i)%64, 255, data[i]...)
		for k := len(owners[i]) - 1; k >= 0; k-- {
			if owners[i][k] > last && (k == 0 || owners[i][k-1] != owners[i][k]) {
				f.First = k
			}
		}
		last = owners[i][len(owners[i])-1]
		frames = append(frames, f)
	}
	return frames
}

// wholeByDefinition returns the packets that are reported and of which no byte is in a frame that is missing.
func wholeByDefinition(length int, l []api.FramePacket, missing func(frame int) bool) []api.FramePacket {
	_, owners := fieldsByDefinition(length, l)
	broken := map[int]bool{}
	for i, field := range owners {
		for _, packet := range field {
			broken[packet] = broken[packet] || missing(i)
		}
	}
	var out []api.FramePacket
	for i, p := range l {
		if !broken[i] {
			out = append(out, p)
		}
	}
	return reported(out)
}

// fullByDefinition returns the full counts of frames of a channel, by trying all numbers nearby.
func fullByDefinition(counts []int) []int {
	var full []int
	for i, count := range counts {
		if i == 0 {
			full = append(full, count+64)
			continue
		}
		best, distance := 0, 1000
		for n := full[i-1] + 100; n >= full[i-1]-100; n-- { // the greater one first
			if size := max(n-full[i-1], full[i-1]-n); (n-count)%64 == 0 && size < distance {
				best, distance = n, size
			}
		}
		full = append(full, best)
	}
	return full
}

// numberedByDefinition returns the frames of a channel by their full counts, and the first and the last full count.
func numberedByDefinition(channel int, l []api.FrameFrame) (map[int]api.FrameFrame, int, int) {
	var own []api.FrameFrame
	var counts []int
	for _, f := range l {
		if f.Channel == channel {
			own, counts = append(own, f), append(counts, f.Count)
		}
	}
	byFull := map[int]api.FrameFrame{}
	if len(own) == 0 {
		return byFull, 0, -1
	}
	full := fullByDefinition(counts)
	for i := len(own) - 1; i >= 0; i-- { // the first one remains
		byFull[full[i]] = own[i]
	}
	return byFull, slices.Min(full), slices.Max(full)
}

func orderedByDefinition(channel int, l []api.FrameFrame) []api.FrameFrame {
	var out []api.FrameFrame
	byFull, first, last := numberedByDefinition(channel, l)
	for n := first; n <= last; n++ {
		if f, ok := byFull[n]; ok {
			out = append(out, f)
		}
	}
	return out
}

// complete says whether bytes are a whole packet.
func complete(b []int) bool {
	return len(b) >= 3 && len(b) == 3+b[2]
}

// firstByDefinition returns where the packet that was begun ends in the data.
func firstByDefinition(begun, data []int) int {
	b := slices.Clone(begun)
	for i, n := range data {
		if len(b) == 0 || complete(b) {
			return i
		}
		b = append(b, n)
	}
	return 255
}

// extractedByDefinition reads byte by byte.
func extractedByDefinition(channel int, l []api.FrameFrame) []api.FramePacket {
	var out []api.FramePacket
	byFull, first, last := numberedByDefinition(channel, l)
	open, begun := false, []int(nil)
	for n := first; n <= last; n++ {
		f, ok := byFull[n]
		if !ok {
			open = false
			continue
		}
		at := 0
		if open && f.First != firstByDefinition(begun, f.Data) {
			open = false
		}
		if !open {
			if f.First == 255 {
				continue
			}
			open, begun, at = true, nil, f.First
		}
		for _, b := range f.Data[at:] {
			begun = append(begun, b)
			if complete(begun) {
				out = append(out, newPacket(begun[0], begun[1], begun[3:]...))
				begun = nil
			}
		}
	}
	return reported(out)
}

func fraction(num, den int) *big.Rat {
	return big.NewRat(int64(num), int64(den))
}

// highest returns the highest time at a count of a line with this rate that is above no pair.
func highest(l []api.FramePair, rate *big.Rat, count int) *big.Rat {
	var least *big.Rat
	for _, p := range l {
		n := new(big.Rat).Mul(rate, fraction(count-p.Count, 1))
		n.Add(n, fraction(p.Time.Hi, 1))
		if least == nil || n.Cmp(least) < 0 {
			least = n
		}
	}
	return least
}

// turnedOver returns pairs with the opposite times.
func turnedOver(l []api.FramePair) []api.FramePair {
	var out []api.FramePair
	for _, p := range l {
		out = append(out, newPair(p.Count, -p.Time.Hi, -p.Time.Lo))
	}
	return out
}

// ratesByDefinition returns the limits of the rate that each two pairs set, the strictest ones; there is a line if they do not contradict each other. (By the theorem of Helly: for a rate the first terms of lines are ranges, which meet if each two of them meet.)
func ratesByDefinition(l []api.FramePair) (lo, hi *big.Rat, line bool) {
	for i, a := range l {
		for _, b := range l[i+1:] {
			least := fraction(b.Time.Lo-a.Time.Hi, b.Count-a.Count)
			most := fraction(b.Time.Hi-a.Time.Lo, b.Count-a.Count)
			if lo == nil || least.Cmp(lo) > 0 {
				lo = least
			}
			if hi == nil || most.Cmp(hi) < 0 {
				hi = most
			}
		}
	}
	return lo, hi, len(l) < 2 || lo.Cmp(hi) <= 0
}

// latestByDefinition returns the maximum time at a count: as a function of the rate the highest time is concave, with corners where two upper ends meet.
func latestByDefinition(l []api.FramePair, count int) *big.Rat {
	lo, hi, _ := ratesByDefinition(l)
	best := highest(l, lo, count)
	try := func(rate *big.Rat) {
		if rate.Cmp(lo) >= 0 && rate.Cmp(hi) <= 0 {
			if n := highest(l, rate, count); n.Cmp(best) > 0 {
				best = n
			}
		}
	}
	try(hi)
	for i, a := range l {
		for _, b := range l[i+1:] {
			try(fraction(b.Time.Hi-a.Time.Hi, b.Count-a.Count))
		}
	}
	return best
}

// roundedUp returns the least whole number that is not below a fraction.
func roundedUp(x *big.Rat) int {
	n := new(big.Int).Neg(x.Num())
	n.Div(n, x.Denom()) // rounds down, as the denominator is above 0
	return int(-n.Int64())
}

func timesByDefinition(l []api.FramePair, count int) api.Range {
	return api.Range{Lo: -roundedUp(latestByDefinition(turnedOver(l), count)), Hi: roundedUp(latestByDefinition(l, count))}
}

// fewestPieces returns the least number of runs with lines into which pairs are divided.
func fewestPieces(l []api.FramePair) int {
	fewest := make([]int, len(l)+1)
	for end := 1; end <= len(l); end++ {
		fewest[end] = end
		for from := range end {
			if _, _, line := ratesByDefinition(l[from:end]); line {
				fewest[end] = min(fewest[end], fewest[from]+1)
			}
		}
	}
	return fewest[len(l)]
}
