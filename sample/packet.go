package sample

import (
	"slices"

	"cassegrain/api"
	"cassegrain/check"
	"cassegrain/number"
)

// The string of a packet.
const (
	packetNumbers  = 2 + 2*api.SampleLength
	unsignedBefore = 2 // the counter and the gain have no sign
	packetDigits   = 6
)

// CheckPacket checks a packet.
func CheckPacket(p api.SamplePacket) api.Errno {
	return check.First(
		check.Range(p.Counter, 0, api.SampleModulus-1),
		check.Range(p.Gain, 1, api.MaxSampleGain),
		check.Each(p.Samples[:], check.Parts(api.MaxSample)),
	)
}

// Unwrapped returns the full counter closest to near of a packet with this counter.
func Unwrapped(near, counter int) (int, api.Errno) {
	e := check.First(check.Range(near, 0, api.MaxSampleCounter), check.Range(counter, 0, api.SampleModulus-1))
	if e != api.OK {
		return 0, e
	}
	return unwrapped(near, counter), api.OK
}

func unwrapped(near, counter int) int {
	after := near + number.Modulo(counter-near, api.SampleModulus)
	before := after - api.SampleModulus
	if before >= 0 && near-before < after-near {
		return before
	}
	return after
}

// fullCounters returns the full counter of each packet; the packets are valid.
func fullCounters(l []api.SamplePacket) []int {
	full := make([]int, len(l))
	for i, p := range l {
		if i == 0 {
			full[i] = p.Counter + api.SampleModulus
		} else {
			full[i] = unwrapped(full[i-1], p.Counter)
		}
	}
	return full
}

// reception is packets that were checked: the full counter of each of them, and the range of these counters.
type reception struct {
	full []int
	span api.Range
}

// received checks packets.
func received(l []api.SamplePacket) (reception, api.Errno) {
	e := check.First(
		check.Require(api.ErrShape, func() bool { return len(l) > 0 }),
		check.AtMost(api.MaxSamplePackets, l, CheckPacket),
	)
	if e != api.OK {
		return reception{}, e
	}
	full := fullCounters(l)
	span := api.Range{Lo: slices.Min(full), Hi: slices.Max(full)}
	e = check.First(
		check.Require(api.ErrLarge, func() bool { return span.Hi-span.Lo < api.MaxSampleSpan }),
		check.Require(api.ErrClash, func() bool { return !clash(l, full) }),
	)
	if e != api.OK {
		return reception{}, e
	}
	return reception{full: full, span: span}, api.OK
}

// clash says whether a packet differs from the first one with its full counter.
func clash(l []api.SamplePacket, full []int) bool {
	first := map[int]api.SamplePacket{}
	for i, p := range l {
		earlier, repeated := first[full[i]]
		if repeated && p != earlier {
			return true
		}
		first[full[i]] = p
	}
	return false
}

// KindsOf returns the kind of each packet.
func KindsOf(l []api.SamplePacket) ([]int, api.Errno) {
	r, e := received(l)
	if e != api.OK {
		return nil, e
	}
	kinds := make([]int, len(l))
	seen := map[int]bool{}
	latest := 0 // less than the first full counter, which is at least SampleModulus
	for i, n := range r.full {
		switch {
		case seen[n]:
			kinds[i] = api.SampleRepeated
		case n > latest:
			kinds[i] = api.SampleNew
		default:
			kinds[i] = api.SampleLate
		}
		seen[n] = true
		latest = max(latest, n)
	}
	return kinds, api.OK
}

// missing returns the full counters of the range that no packet has.
func (r reception) missing() []int {
	seen := map[int]bool{}
	for _, n := range r.full {
		seen[n] = true
	}
	var missing []int
	for n := r.span.Lo; n <= r.span.Hi; n++ {
		if !seen[n] {
			missing = append(missing, n)
		}
	}
	return missing
}

// indexOf returns the index in the stream of the first sample of a full counter.
func (r reception) indexOf(full int) int {
	return (full - r.span.Lo) * api.SampleLength
}

// gaps returns the maximal ranges of the indices of missing samples.
func (r reception) gaps() []api.Range {
	var gaps []api.Range
	for _, n := range r.missing() {
		at := r.indexOf(n)
		if last := len(gaps) - 1; last < 0 || gaps[last].Hi+1 < at {
			gaps = append(gaps, api.Range{Lo: at})
		}
		gaps[len(gaps)-1].Hi = at + api.SampleLength - 1
	}
	return gaps
}

// MissingOf returns the full counters between the minimum and the maximum one that no packet has.
func MissingOf(l []api.SamplePacket) ([]int, api.Errno) {
	r, e := received(l)
	if e != api.OK {
		return nil, e
	}
	return r.missing(), api.OK
}

// Assembled returns the stream of packets.
func Assembled(l []api.SamplePacket) (api.SampleStream, api.Errno) {
	r, e := received(l)
	if e != api.OK {
		return api.SampleStream{}, e
	}
	samples := make([]api.Gauss, r.indexOf(r.span.Hi+1))
	for i, p := range l {
		copy(samples[r.indexOf(r.full[i]):], p.Samples[:])
	}
	return api.SampleStream{First: r.span.Lo, Samples: samples, Gaps: r.gaps()}, api.OK
}

// FormatPacket returns the string of a packet.
func FormatPacket(p api.SamplePacket) string {
	numbers := []int{p.Counter, p.Gain}
	for _, g := range p.Samples {
		numbers = append(numbers, g.Re, g.Im)
	}
	return number.Join(numbers...)
}

// ParsePacket returns the packet with this string.
func ParsePacket(s string) (api.SamplePacket, api.Errno) {
	p, ok := readPacket(s)
	if !ok {
		return api.SamplePacket{}, api.ErrSyntax
	}
	if e := CheckPacket(p); e != api.OK {
		return api.SamplePacket{}, e
	}
	return p, api.OK
}

// readPacket reads the string of a packet, which need not be valid.
func readPacket(s string) (api.SamplePacket, bool) {
	words := number.Words{Count: packetNumbers, Unsigned: unsignedBefore, Digits: packetDigits}
	numbers, ok := words.Read(s)
	if !ok {
		return api.SamplePacket{}, false
	}
	p := api.SamplePacket{Counter: numbers[0], Gain: numbers[1]}
	for i := range p.Samples {
		at := unsignedBefore + 2*i
		p.Samples[i] = api.Gauss{Re: numbers[at], Im: numbers[at+1]}
	}
	return p, true
}
