package frame_test

import (
	"math"
	"math/rand"
	"strings"
	"testing"

	"cassegrain/api"
	"cassegrain/frame"
)

// P6.6: example 9, and frames and packets that are not valid.
func TestFormat(t *testing.T) {
	for want, f := range map[string]api.FrameFrame{
		"1 5 0 7 0 0 255": exampleFrame(),
		"0 0 0":           {},
		"3 63 255":        newFrame(3, 63, 255),
		"-1 -2 -3 -4 0 5": newFrame(-1, -2, -3, -4, 0, 5),
		"9223372036854775807 -9223372036854775808 1000 9223372036854775807": newFrame(math.MaxInt, math.MinInt, 1000, math.MaxInt),
	} {
		if s := frame.FormatFrame(f); s != want {
			t.Error(f, s)
		}
	}
	for want, p := range map[string]api.FramePacket{
		"9 0 1 2": newPacket(9, 0, 1, 2),
		"0 0":     {},
		"255 255": newPacket(255, 255),
		"-9 1000 9223372036854775807 -9223372036854775808": newPacket(-9, 1000, math.MaxInt, math.MinInt),
	} {
		if s := frame.FormatPacket(p); s != want {
			t.Error(p, s)
		}
	}
	long := make([]int, 5000)
	if s := frame.FormatFrame(newFrame(1, 2, 3, long...)); s != "1 2 3"+strings.Repeat(" 0", 5000) {
		t.Error(len(s))
	}
	if s := frame.FormatPacket(newPacket(1, 2, long...)); s != "1 2"+strings.Repeat(" 0", 5000) {
		t.Error(len(s))
	}
}

// badStrings returns strings that are not numbers of at most 3 digits, without signs, separated by single blanks, if they are put in the place of "#".
func badStrings(around string) []string {
	var l []string
	for _, s := range []string{"", " ", "1 ", " 1", "1  2", "-1", "-0", "+1", "01", "00", "000", "1000", "0255", "-", "x", "1x", "1,2", "1\t2", "1\n", "\x00", "1\xff", "\u0661", "/", ":", "1.0", "9223372036854775808"} {
		l = append(l, strings.Replace(around, "#", s, 1))
	}
	return l
}

// P6.6: strings of frames, also of such as no rules have.
func TestParseFrame(t *testing.T) {
	for s, want := range map[string]api.FrameFrame{
		"1 5 0 7 0 0 255": exampleFrame(),
		"0 0 0":           {},
		"999 998 997":     newFrame(999, 998, 997),
		"1 2 3 4":         newFrame(1, 2, 3, 4),
		"300 64 254" + strings.Repeat(" 255", 24): newFrame(300, 64, 254, repeated(255, 24)...),
	} {
		f, e := frame.ParseFrame(s)
		wantFrame(t, s, f, e, want)
	}
	fails := func(s string, want api.Errno) {
		t.Helper()
		f, e := frame.ParseFrame(s)
		wantNoFrame(t, s, f, e, want)
	}
	for _, around := range []string{"#", "# 2 3", "1 # 3", "1 2 #", "1 2 3 #", "1 2 3 # 4", "1 2 3 256 #", "1 2 3" + strings.Repeat(" 256", 30) + " #", "1 2 3 #" + strings.Repeat(" 0", 25)} {
		for _, s := range badStrings(around) {
			fails(s, api.ErrSyntax)
		}
	}
	for _, s := range []string{"", "1", "1 2", "999 999"} {
		fails(s, api.ErrSyntax)
	}
	many := "1 2 3" + strings.Repeat(" 0", 24)
	fails(many+" 0", api.ErrLarge)
	fails(many+" 256", api.ErrLarge)
	fails("1 2 3"+strings.Repeat(" 999", 25), api.ErrLarge)
	fails("1 2 3"+strings.Repeat(" 9", 50000), api.ErrLarge)
	fails("1 2 3"+strings.Repeat(" 9", 50000)+" ", api.ErrSyntax)
	for _, s := range []string{"256", "999", "0 0 256", "256 0 0"} {
		fails("1 2 3 "+s, api.ErrRange)
		fails("999 999 999 "+s, api.ErrRange)
	}
	fails("1 2 3"+strings.Repeat(" 0", 23)+" 256", api.ErrRange)
}

// P6.6: strings of packets.
func TestParsePacket(t *testing.T) {
	for s, want := range map[string]api.FramePacket{
		"9 0 1 2":                            newPacket(9, 0, 1, 2),
		"0 0":                                {},
		"255 255":                            newPacket(255, 255),
		"255 0" + strings.Repeat(" 255", 40): newPacket(255, 0, repeated(255, 40)...),
	} {
		p, e := frame.ParsePacket(s)
		wantPacket(t, s, p, e, want)
	}
	fails := func(s string, want api.Errno) {
		t.Helper()
		p, e := frame.ParsePacket(s)
		wantNoPacket(t, s, p, e, want)
	}
	for _, around := range []string{"#", "# 2", "1 #", "1 2 #", "1 2 # 4", "256 256 256 #", "1 2" + strings.Repeat(" 256", 50) + " #", "1 2 #" + strings.Repeat(" 0", 41)} {
		for _, s := range badStrings(around) {
			fails(s, api.ErrSyntax)
		}
	}
	fails("", api.ErrSyntax)
	fails("255", api.ErrSyntax)
	many := "1 2" + strings.Repeat(" 0", 41)
	for s, want := range map[string]api.Errno{
		"256 0": api.ErrRange, "0 256": api.ErrRange, "999 999 999": api.ErrRange, "0 0 256": api.ErrRange, "0 0 1 2 999": api.ErrRange,
		many: api.ErrLarge, many + " 256": api.ErrLarge, many[:len(many)-2] + " 999 999": api.ErrLarge,
		"256" + many[1:]: api.ErrRange, "1 256" + many[3:]: api.ErrRange,
		many[:len(many)-2] + "0": api.ErrSyntax, "1 2" + strings.Repeat(" 9", 50000): api.ErrLarge, "1 2" + strings.Repeat(" 9", 50000) + " ": api.ErrSyntax,
	} {
		fails(s, want)
	}
}

// P6.12: strings and back, for valid frames and packets.
func TestFormatAndBack(t *testing.T) {
	r := rand.New(rand.NewSource(14))
	for range 500 {
		x := randomRules(r)
		f := randomFrame(r, x)
		s := frame.FormatFrame(f)
		got, e := frame.ParseFrame(s)
		wantFrame(t, s, got, e, f)
		wantError(t, s, frame.CheckFrame(x, got), api.OK)
		if again := frame.FormatFrame(got); again != s {
			t.Error(s, again)
		}
		for _, p := range randomPackets(r, 3, 40) {
			s := frame.FormatPacket(p)
			got, e := frame.ParsePacket(s)
			wantPacket(t, s, got, e, p)
			if again := frame.FormatPacket(got); again != s {
				t.Error(s, again)
			}
		}
	}
}
