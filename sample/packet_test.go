package sample_test

import (
	"math"
	"math/rand"
	"slices"
	"strconv"
	"strings"
	"testing"

	"cassegrain/api"
	"cassegrain/sample"
)

// packet returns a packet whose samples follow from its counter, differ from one another and are not 0.
func packet(counter int) api.SamplePacket {
	p := api.SamplePacket{Counter: counter, Gain: 1 + counter%100}
	for i := range p.Samples {
		p.Samples[i] = gauss(1+counter+i, -counter-100*i)
	}
	return p
}

func packets(counters ...int) []api.SamplePacket {
	var l []api.SamplePacket
	for _, n := range counters {
		l = append(l, packet(n))
	}
	return l
}

// changed returns a packet with one change.
func changed(p api.SamplePacket, change func(*api.SamplePacket)) api.SamplePacket {
	change(&p)
	return p
}

// badPackets returns packets that are not valid: all are ErrRange.
func badPackets() []api.SamplePacket {
	var l []api.SamplePacket
	for _, n := range badNumbers(0, 1023) {
		l = append(l, changed(packet(7), func(p *api.SamplePacket) { p.Counter = n }))
	}
	for _, n := range badNumbers(1, 100) {
		l = append(l, changed(packet(7), func(p *api.SamplePacket) { p.Gain = n }))
	}
	for _, n := range badNumbers(-2000, 2000) {
		l = append(l,
			changed(packet(7), func(p *api.SamplePacket) { p.Samples[0].Re = n }),
			changed(packet(7), func(p *api.SamplePacket) { p.Samples[7].Im = n }),
			changed(packet(7), func(p *api.SamplePacket) { p.Samples[7].Re = n }),
		)
	}
	return l
}

// P2.1: the limits of packets.
func TestCheckPacket(t *testing.T) {
	for _, p := range badPackets() {
		wantError(t, p, sample.CheckPacket(p), api.ErrRange)
	}
	largest := api.SamplePacket{Counter: 1023, Gain: 100}
	for i := range largest.Samples {
		largest.Samples[i] = gauss(2000, -2000)
	}
	for _, p := range []api.SamplePacket{{Gain: 1}, packet(7), packet(1023), largest} {
		wantError(t, p, sample.CheckPacket(p), api.OK)
	}
	wantError(t, "zero", sample.CheckPacket(api.SamplePacket{}), api.ErrRange)
}

// P2.1: example 3, the edges, and the errors.
func TestUnwrapped(t *testing.T) {
	for _, c := range []struct{ near, counter, want int }{
		{2000, 0, 2048},
		{1536, 0, 2048}, // 512 away both ways
		{1535, 0, 1024},
		{1537, 0, 2048},
		{2047, 1023, 2047},
		{2048, 1023, 2047},
		{2047, 0, 2048},
		{5, 5, 5},
		{0, 0, 0},
		{0, 1, 1},
		{0, 512, 512},
		{0, 513, 513}, // -511 is closer, but below 0
		{0, 1023, 1023},
		{510, 1023, 1023},
		{512, 0, 1024},
		{511, 0, 0},
		{1000000000, 512, 1000000000},
		{1000000000, 0, 1000000512}, // beyond the limit of near
		{1000000000, 1, 999999489},
	} {
		if n, e := sample.Unwrapped(c.near, c.counter); e != api.OK || n != c.want {
			t.Error(c, n, e)
		}
	}
	for _, near := range badNumbers(0, 1000000000) {
		n, e := sample.Unwrapped(near, 5)
		wantError(t, near, e, api.ErrRange)
		if n != 0 {
			t.Error(near, n)
		}
	}
	for _, counter := range badNumbers(0, 1023) {
		n, e := sample.Unwrapped(5, counter)
		wantError(t, counter, e, api.ErrRange)
		if n != 0 {
			t.Error(counter, n)
		}
	}
}

// P2.1: no number that equals the counter is closer, and no greater one is as close.
func TestUnwrappedIsClosest(t *testing.T) {
	r := rand.New(rand.NewSource(1))
	for i := range 3000 {
		near, counter := r.Intn(5000), r.Intn(1024)
		if i%10 == 0 {
			near = r.Intn(1000000001)
		}
		want, distance := 0, math.MaxInt
		for n := max(0, near/1024-2)*1024 + counter; n <= near+2048; n += 1024 {
			if d := max(n-near, near-n); d <= distance {
				want, distance = n, d
			}
		}
		if n, e := sample.Unwrapped(near, counter); e != api.OK || n != want {
			t.Fatal(near, counter, n, e, want)
		}
	}
}

const (
	isNew      = api.SampleNew
	isLate     = api.SampleLate
	isRepeated = api.SampleRepeated
)

// streams are slices of packets, by their counters, with their kinds, the missing full counters, and the stream.
var streams = []struct {
	counters, kinds, missing []int
	first, samples           int
	gaps                     []api.Range
}{
	{[]int{1023, 0, 1022, 0}, []int{isNew, isNew, isLate, isRepeated}, nil, 2046, 24, nil},
	{[]int{1023, 1, 0}, []int{isNew, isNew, isLate}, nil, 2047, 24, nil},
	{[]int{5, 8}, []int{isNew, isNew}, []int{1030, 1031}, 1029, 32, []api.Range{{Lo: 8, Hi: 23}}},
	{[]int{0}, []int{isNew}, nil, 1024, 8, nil},
	{[]int{1023}, []int{isNew}, nil, 2047, 8, nil},
	{[]int{0, 0, 0}, []int{isNew, isRepeated, isRepeated}, nil, 1024, 8, nil},
	{[]int{0, 1023}, []int{isNew, isLate}, nil, 1023, 16, nil},
	{[]int{0, 1023, 1023, 1}, []int{isNew, isLate, isRepeated, isNew}, nil, 1023, 24, nil},
	{[]int{10, 7, 8, 12, 14, 7}, []int{isNew, isLate, isLate, isNew, isNew, isRepeated}, []int{1033, 1035, 1037}, 1031, 64,
		[]api.Range{{Lo: 16, Hi: 23}, {Lo: 32, Hi: 39}, {Lo: 48, Hi: 55}}},
	{[]int{20, 15, 18}, []int{isNew, isLate, isLate}, []int{1040, 1041, 1043}, 1039, 48, []api.Range{{Lo: 8, Hi: 23}, {Lo: 32, Hi: 39}}},
	{[]int{1000, 15}, []int{isNew, isNew}, sequence(2025, 2062), 2024, 320, []api.Range{{Lo: 8, Hi: 311}}}, // the longest
	{[]int{15, 1000}, []int{isNew, isLate}, sequence(1001, 1038), 1000, 320, []api.Range{{Lo: 8, Hi: 311}}},
}

func sequence(lo, hi int) []int {
	var l []int
	for n := lo; n <= hi; n++ {
		l = append(l, n)
	}
	return l
}

// P2.2: examples 1 and 2, and the edge cases.
func TestStreams(t *testing.T) {
	for _, c := range streams {
		l := packets(c.counters...)
		kinds, e := sample.KindsOf(l)
		wantError(t, c.counters, e, api.OK)
		wantSame(t, c.counters, kinds, c.kinds)
		missing, e := sample.MissingOf(l)
		wantError(t, c.counters, e, api.OK)
		wantSame(t, c.counters, missing, c.missing)
		s, e := sample.Assembled(l)
		wantError(t, c.counters, e, api.OK)
		wantSame(t, c.counters, s.Gaps, c.gaps)
		if s.First != c.first || len(s.Samples) != c.samples {
			t.Error(c.counters, s.First, len(s.Samples))
			continue
		}
		want := make([]api.Gauss, c.samples)
		for i := range want {
			full := c.first + i/8
			if !slices.Contains(c.missing, full) {
				want[i] = packet(full % 1024).Samples[i%8]
			}
		}
		wantSame(t, c.counters, s.Samples, want)
	}
}

// wantPacketsError reports another error of the packets, or a result beside an error, of each function of packets.
func wantPacketsError(t *testing.T, what any, l []api.SamplePacket, want api.Errno) {
	t.Helper()
	kinds, e := sample.KindsOf(l)
	wantError(t, what, e, want)
	missing, e := sample.MissingOf(l)
	wantError(t, what, e, want)
	s, e := sample.Assembled(l)
	wantError(t, what, e, want)
	if want != api.OK && (len(kinds) != 0 || len(missing) != 0 || s.First != 0 || len(s.Samples) != 0 || len(s.Gaps) != 0) {
		t.Error(what, "a result beside an error", kinds, missing, s)
	}
}

// P2.2: the errors of packets, in their order.
func TestPacketsErrors(t *testing.T) {
	bad := changed(packet(5), func(p *api.SamplePacket) { p.Gain = 0 })
	other := changed(packet(5), func(p *api.SamplePacket) { p.Gain++ })
	same := func(n int) []api.SamplePacket { return slices.Repeat(packets(5), n) }
	for name, c := range map[string]struct {
		l    []api.SamplePacket
		want api.Errno
	}{
		"none":                 {nil, api.ErrShape},
		"empty":                {[]api.SamplePacket{}, api.ErrShape},
		"most":                 {same(30), api.OK},
		"too many":             {same(31), api.ErrLarge},
		"too many, one bad":    {append(same(30), bad), api.ErrLarge},
		"most, the last bad":   {append(same(29), bad), api.ErrRange},
		"a bad counter":        {append(same(1), api.SamplePacket{Counter: 1024, Gain: 1}), api.ErrRange},
		"a counter below 0":    {[]api.SamplePacket{{Counter: -1, Gain: 1}}, api.ErrRange},
		"bad and a clash":      {[]api.SamplePacket{packet(5), other, bad}, api.ErrRange},
		"bad and too far":      {[]api.SamplePacket{packet(5), packet(500), bad}, api.ErrRange},
		"far enough":           {packets(5, 44), api.OK},
		"too far":              {packets(5, 45), api.ErrLarge},
		"too far back":         {packets(45, 5), api.ErrLarge},
		"too far both ways":    {packets(25, 44, 4), api.ErrLarge},
		"far enough both ways": {packets(25, 44, 5), api.OK},
		"too far over 0":       {packets(1000, 16), api.ErrLarge},
		"around":               {packets(0, 400, 800, 0), api.ErrLarge}, // the last full counter is 2048
		"below 0":              {packets(0, 600, 200, 900), api.ErrLarge},
		"a clash":              {[]api.SamplePacket{packet(5), other}, api.ErrClash},
		"a clash at the end":   {[]api.SamplePacket{packet(5), packet(6), packet(5), other}, api.ErrClash},
		"two clashes":          {[]api.SamplePacket{packet(5), other, other}, api.ErrClash},
		"a clash and too far":  {[]api.SamplePacket{packet(5), other, packet(45)}, api.ErrLarge},
		"another full counter": {[]api.SamplePacket{packet(5), packet(6), changed(packet(7), func(p *api.SamplePacket) { p.Gain++ })}, api.OK},
	} {
		wantPacketsError(t, name, c.l, c.want)
	}
	for _, p := range badPackets() {
		wantPacketsError(t, p, []api.SamplePacket{packet(5), p}, api.ErrRange)
	}
	for i := range 8 {
		wantPacketsError(t, i, []api.SamplePacket{packet(5), changed(packet(5), func(p *api.SamplePacket) { p.Samples[i].Re++ })}, api.ErrClash)
		wantPacketsError(t, i, []api.SamplePacket{packet(5), changed(packet(5), func(p *api.SamplePacket) { p.Samples[i].Im-- })}, api.ErrClash)
	}
}

// randomCounters returns counters of packets near one another: of at least 5 packets, some of them twice.
func randomCounters(r *rand.Rand) []int {
	lowest := r.Intn(1024)
	var l []int
	for range between(r, 5, 30) {
		l = append(l, (lowest+r.Intn(40))%1024)
	}
	return l
}

// sameStream says whether two streams are equal.
func sameStream(a, b api.SampleStream) bool {
	return a.First == b.First && slices.Equal(a.Samples, b.Samples) && slices.Equal(a.Gaps, b.Gaps)
}

// P2.2: kinds follow from what came before.
func TestKindsRandom(t *testing.T) {
	r := rand.New(rand.NewSource(2))
	for range 300 {
		l := packets(randomCounters(r)...)
		var full, want []int
		for i, p := range l {
			n := p.Counter + 1024
			if i > 0 {
				n, _ = sample.Unwrapped(full[i-1], p.Counter)
			}
			switch {
			case slices.Contains(full, n):
				want = append(want, isRepeated)
			case i == 0 || n > slices.Max(full):
				want = append(want, isNew)
			default:
				want = append(want, isLate)
			}
			full = append(full, n)
		}
		kinds, e := sample.KindsOf(l)
		wantError(t, full, e, api.OK)
		wantSame(t, full, kinds, want)
	}
}

// P2.10: repeated packets and the order of those after the first one change nothing; the gaps are what is missing.
func TestEachSampleOnce(t *testing.T) {
	r := rand.New(rand.NewSource(3))
	for range 300 {
		l := packets(randomCounters(r)...)
		s, e := sample.Assembled(l)
		wantError(t, l, e, api.OK)
		kinds, _ := sample.KindsOf(l)
		var once []api.SamplePacket
		for i, p := range l {
			if kinds[i] != isRepeated {
				once = append(once, p)
			}
		}
		if same, e := sample.Assembled(once); e != api.OK || !sameStream(s, same) {
			t.Fatal(l, e, "repeated packets change the stream")
		}
		r.Shuffle(len(l)-1, func(i, j int) { l[i+1], l[j+1] = l[j+1], l[i+1] })
		if same, e := sample.Assembled(l); e != api.OK || !sameStream(s, same) {
			t.Fatal(l, e, "the order changes the stream")
		}
		missing, _ := sample.MissingOf(l)
		var inGaps []int
		for _, g := range s.Gaps {
			for i := g.Lo; i <= g.Hi; i++ {
				if i%8 == 0 {
					inGaps = append(inGaps, s.First+i/8)
				}
				if s.Samples[i] != (api.Gauss{}) {
					t.Fatal(l, i, "a gap is not 0")
				}
			}
			if g.Lo%8 != 0 || g.Hi%8 != 7 || g.Lo <= 0 || s.Samples[g.Lo-1] == (api.Gauss{}) || s.Samples[g.Hi+1] == (api.Gauss{}) {
				t.Fatal(l, g, "a gap is not maximal")
			}
		}
		wantSame(t, l, inGaps, missing)
	}
}

// The string of a packet whose samples are 1 to 16, and the packet.
const somePacket = "1023 100 1 2 3 4 5 6 7 8 9 10 11 12 13 14 15 16"

func fromOne() api.SamplePacket {
	p := api.SamplePacket{Counter: 1023, Gain: 100}
	for i := range p.Samples {
		p.Samples[i] = gauss(2*i+1, 2*i+2)
	}
	return p
}

// P2.9: the string of any packet, valid or not.
func TestFormatPacket(t *testing.T) {
	zeros := strings.Repeat(" 0", 14)
	for want, p := range map[string]api.SamplePacket{
		somePacket:        fromOne(),
		"0 0 0 0" + zeros: {},
		"-9223372036854775808 9223372036854775807 -1 12345678" + zeros: {
			Counter: math.MinInt, Gain: math.MaxInt, Samples: [8]api.Gauss{gauss(-1, 12345678)}},
	} {
		if s := sample.FormatPacket(p); s != want {
			t.Error(s, want)
		}
	}
}

// P2.9: the errors of strings, in their order.
func TestParsePacket(t *testing.T) {
	words := strings.Split(somePacket, " ")
	with := func(i int, word string) string {
		changed := slices.Clone(words)
		changed[i] = word
		return strings.Join(changed, " ")
	}
	wants := map[string]api.Errno{
		somePacket:                    api.OK,
		"":                            api.ErrSyntax,
		" ":                           api.ErrSyntax,
		strings.Join(words[:17], " "): api.ErrSyntax,
		somePacket + " 17":            api.ErrSyntax,
		somePacket + " ":              api.ErrSyntax,
		" " + somePacket:              api.ErrSyntax,
		somePacket + "\n":             api.ErrSyntax,
		strings.Join(words, "  "):     api.ErrSyntax,
		strings.Join(words, ","):      api.ErrSyntax,
		strings.Join(words, "\t"):     api.ErrSyntax,
		strings.Repeat(" ", 100000):   api.ErrSyntax,
		strings.Repeat("1", 100000):   api.ErrSyntax,
		with(0, "1024"):               api.ErrRange,
		with(0, "999999"):             api.ErrRange,
		with(0, "0"):                  api.OK,
		with(0, "-1"):                 api.ErrSyntax,
		with(1, "0"):                  api.ErrRange,
		with(1, "101"):                api.ErrRange,
		with(1, "-1"):                 api.ErrSyntax,
	}
	for i := range words {
		for _, word := range []string{"", "-", "-0", "00", "01", "-01", "+1", "--1", "1-", "1.", "0x1", "1_0", "a", "1234567", "-1234567", "0000000", "\u0661"} {
			wants[with(i, word)] = api.ErrSyntax
		}
		wants[with(i, "999999")] = api.ErrRange
		if i > 1 {
			wants[with(i, "-1")] = api.OK
			wants[with(i, "0")] = api.OK
			wants[with(i, "2000")] = api.OK
			wants[with(i, "2001")] = api.ErrRange
			wants[with(i, "-2000")] = api.OK
			wants[with(i, "-2001")] = api.ErrRange
			wants[with(i, "-999999")] = api.ErrRange
			wants["1024 "+with(i, "x")[len("1023 "):]] = api.ErrSyntax // before the errors of the packet
		}
	}
	for s, want := range wants {
		p, e := sample.ParsePacket(s)
		wantError(t, strconv.Quote(s), e, want)
		if e != api.OK && p != (api.SamplePacket{}) {
			t.Error(s, p)
		}
	}
	if p, e := sample.ParsePacket(somePacket); e != api.OK || p != fromOne() {
		t.Error(p, e)
	}
}

// P2.15: a packet comes back from its string.
func TestParseInverts(t *testing.T) {
	r := rand.New(rand.NewSource(4))
	for range 300 {
		p := api.SamplePacket{Counter: r.Intn(1024), Gain: between(r, 1, 100)}
		copy(p.Samples[:], randomSamples(r, 8, 2000))
		if back, e := sample.ParsePacket(sample.FormatPacket(p)); e != api.OK || back != p {
			t.Fatal(p, back, e)
		}
	}
}

// R3: the packets stay as they were, and the stream is memory of its own.
func TestPacketsKept(t *testing.T) {
	l := packets(5, 3, 5, 7)
	before := slices.Clone(l)
	s, _ := sample.Assembled(l)
	again, _ := sample.Assembled(l)
	clear(s.Samples)
	clear(s.Gaps)
	kinds, _ := sample.KindsOf(l)
	clear(kinds)
	missing, _ := sample.MissingOf(l)
	clear(missing)
	wantSame(t, "packets", l, before)
	if latest, e := sample.Assembled(l); e != api.OK || !sameStream(latest, again) {
		t.Error("a stream shares memory with an earlier one")
	}
}
