package pass_test

import (
	"fmt"
	"strings"
	"testing"

	"cassegrain/api"
)

// packet returns the string of a packet whose samples are all the same.
func packet(counter, gain, re, im int) string {
	return fmt.Sprint(counter, gain) + strings.Repeat(fmt.Sprintf(" %d %d", re, im), api.SampleLength)
}

// P10.2: packets: their own errors, and those of all of them together.
func TestTakeErrors(t *testing.T) {
	l := accepted(t, exampleLog(), "take bo 20 0 "+examplePacket)
	for s, want := range map[string]api.Errno{
		"":                         api.ErrSyntax,
		"x":                        api.ErrSyntax,
		packet(1, 1, 0, 0) + " ":   api.ErrSyntax,
		packet(1, 1, 0, 0) + " 0":  api.ErrSyntax,
		" " + packet(1, 1, 0, 0):   api.ErrSyntax,
		packet(1, 1, 1000000, 0):   api.ErrSyntax,
		packet(1024, 1, 0, 0):      api.ErrRange,
		packet(1, 0, 0, 0):         api.ErrRange,
		packet(1, 101, 0, 0):       api.ErrRange,
		packet(1, 1, 2001, 0):      api.ErrRange,
		packet(1, 1, 0, -2001):     api.ErrRange,
		packet(40, 1, 0, 0):        api.ErrLarge,
		packet(984, 1, 0, 0):       api.ErrLarge,
		packet(512, 1, 0, 0):       api.ErrLarge,
		packet(0, 1, 5, 0):         api.ErrClash,
		packet(0, 2, 5, 0):         api.ErrClash,
		packet(39, 100, 2000, 0):   api.OK,
		packet(985, 1, 0, -2000):   api.OK,
		packet(1, 1, 0, 0):         api.OK,
		packet(1023, 1, -2000, -1): api.OK,
	} {
		added(t, l, "take bo 30 0 "+s, want)
	}
	l = accepted(t, l, "take bo 30 0 "+packet(1, 1, 3, 4), "take bo 31 0 "+packet(1, 1, 3, 4))
	refused(t, l, "take bo 32 0 "+packet(1, 1, 4, 3), api.ErrClash)
	l = exampleLog()
	for i := range 29 {
		l = accepted(t, l, "take bo 30 0 "+packet(1+i, 1, i, -i))
	}
	refused(t, l, "take bo 30 0 "+packet(0, 1, 5, 0), api.ErrLarge) // the 31st packet; that it also clashes comes later
	refused(t, l, "take bo 30 0 "+packet(30, 1, 0, 0), api.ErrLarge)
	refused(t, l, "take bo 30 0 "+packet(30, 0, 0, 0), api.ErrRange)
}

// P10.2: frames: whether there are rules, their own errors, and how many there are.
func TestFrameErrors(t *testing.T) {
	for _, s := range []string{"0 5 0 9 0 1 7", "x", "", "0 5 0 9"} {
		refused(t, exampleLog(), "frame bo 30 0 "+s, api.ErrMissing)
	}
	l := accepted(t, exampleLog(), "set ada 30 0 frames 4 2")
	for s, want := range map[string]api.Errno{
		"":                                  api.ErrSyntax,
		"0 5":                               api.ErrSyntax,
		"0 5 0 9 0 1 -7":                    api.ErrSyntax,
		"0 5 0 9 0 1 7 ":                    api.ErrSyntax,
		"0 5 0 9 0 1 1000":                  api.ErrSyntax,
		"9 99 9" + strings.Repeat(" 0", 25): api.ErrLarge,
		"9 99 9" + strings.Repeat(" 0", 24): api.ErrMissing,
		"9 99 9 256":                        api.ErrRange,
		"2 5 0 9 0 1 7":                     api.ErrMissing,
		"1 64 0 9 0 1 7":                    api.ErrRange,
		"1 63 4 9 0 1 7":                    api.ErrRange,
		"1 63 254 9 0 1 7":                  api.ErrRange,
		"1 63 3 9 0 1":                      api.ErrShape,
		"1 63 3 9 0 1 7 8":                  api.ErrShape,
		"1 63 3":                            api.ErrShape,
		"1 63 3 9 0 1 256":                  api.ErrRange,
		"1 63 3 255 0 1 0":                  api.OK,
		"0 0 255 0 0 0 0":                   api.OK,
	} {
		added(t, l, "frame bo 30 0 "+s, want)
	}
	for i := range 40 {
		l = accepted(t, l, fmt.Sprintf("frame bo 30 0 %d %d 0 9 0 1 7", i%2, i))
	}
	refused(t, l, "frame bo 30 0 0 41 0 9 0 1 7", api.ErrFull)
	refused(t, l, "frame bo 30 0 0 5 0 9 0 1", api.ErrShape)
	refused(t, l, "frame bo 30 0 2 5 0 9 0 1 7", api.ErrMissing)
	refused(t, l, "frame bo 30 0 x", api.ErrSyntax)
}

// P10.2: measurements: their own errors, and how many there are. They may contradict each other.
func TestMeasureErrors(t *testing.T) {
	l := exampleLog()
	for s, want := range map[string]api.Errno{
		"":                      api.ErrSyntax,
		"at 0 1":                api.ErrSyntax,
		"at 0 1 2 ":             api.ErrSyntax,
		"at 10000 1 2":          api.ErrSyntax,
		"from 0 1 2":            api.ErrSyntax,
		"to 0 1 2":              api.ErrSyntax,
		"at 1001 1 2":           api.ErrRange,
		"at 0 1 100001":         api.ErrRange,
		"at 0 2 1":              api.ErrOrder,
		"from 5 5 1 2":          api.ErrOrder,
		"at 1000 -100000 -1":    api.OK,
		"from 0 1000 -1 100000": api.OK,
	} {
		added(t, l, "measure bo 40 0 "+s, want)
	}
	for i := range 12 {
		l = accepted(t, l, fmt.Sprintf("measure bo 40 0 at 0 %d %d", i, i))
	}
	refused(t, l, "measure bo 40 0 at 0 1 2", api.ErrFull)
	refused(t, l, "measure bo 40 0 at 0 2 1", api.ErrOrder)
	refused(t, l, "measure bo 40 0 x", api.ErrSyntax)
}

// P10.2: commands: whether there is an uplink, their own errors, and those of the state of the link before them.
func TestCommandErrors(t *testing.T) {
	base := accepted(t, exampleLog(), "join ada 30 3 cy")
	for _, s := range []string{"send 0", "x", "", "send 99"} {
		refused(t, base, "command cy 30 0 "+s, api.ErrMissing)
	}
	l := accepted(t, base, "set ada 30 0 uplink "+exampleUplink)
	for s, want := range map[string]api.Errno{
		"":                   api.ErrSyntax,
		"send":               api.ErrSyntax,
		"send 0 ":            api.ErrSyntax,
		"send 00":            api.ErrSyntax,
		"restart 0":          api.ErrSyntax,
		"send 12":            api.ErrRange,
		"pass 0":             api.ErrRange,
		"pass 1000000000001": api.ErrRange,
		"arrive 6":           api.ErrRange,
		"arrive 0":           api.ErrMissing,
		"send 4":             api.ErrMissing,
		"send 2":             api.ErrRefused,
		"send 1":             api.OK,
		"pass 1000000000000": api.OK,
		"reboot":             api.OK,
	} {
		added(t, l, "command cy 30 0 "+s, want)
	}
	commands := func(l []api.PassEntry, events ...string) []api.PassEntry {
		t.Helper()
		for _, s := range events {
			l = accepted(t, l, "command cy 30 0 "+s)
		}
		return l
	}
	full := commands(l, "send 0", "send 1")
	refused(t, full, "command cy 30 0 send 0", api.ErrFull)
	refused(t, full, "command cy 30 0 repeat 1", api.ErrFull)
	refused(t, full, "command cy 30 0 hear 0", api.ErrMissing)
	halted := commands(l, "pass 101", "send 0", "arrive 0", "hear 0")
	refused(t, halted, "command cy 30 0 send 0", api.ErrState)
	commands(halted, "restart", "send 0")
	late := commands(l, "pass 1000000000000")
	refused(t, late, "command cy 30 0 pass 1", api.ErrRange)
	one := accepted(t, base, "set ada 30 0 uplink "+exampleUplink, "set ada 30 0 uplink a;b -1;|0 0 9|1 1") // the last one is in force
	refused(t, one, "command cy 30 0 send 1", api.ErrMissing)
	refused(t, commands(one, "send 0"), "command cy 30 0 send 0", api.ErrFull)
}
