package pass_test

import (
	"fmt"
	"math"
	"math/rand"
	"strings"
	"testing"

	"cassegrain/api"
	"cassegrain/command"
	"cassegrain/pass"
)

// settingEntry returns the string of an entry that makes a setting.
func settingEntry(setting string) string {
	return "set ada 40 0 " + setting
}

// P10.2: settings of all words, within the limits.
func TestSettings(t *testing.T) {
	for _, s := range []string{
		"loop 1 0 2 0", "loop 0 0 1 0", "loop 1000 1000 1000 2047", "loop 0 0 1 -2048", "lock 0 1 1", "lock 2048 200 200", "lock 2048 200 1", "frames 4 1", "frames 24 4",
		"uplink a;b -1;|0 0 0|1 1", "uplink a;b -1;r 0 -1 -1 1|0 0 1000000000000|6 6", "uplink " + exampleUplink,
		"uplink a;b -1;|" + strings.TrimSuffix(strings.Repeat("0 0 9,", 12), ",") + "|1 1",
	} {
		accepted(t, station(), settingEntry(s))
		accepted(t, exampleLog(), settingEntry(s))
	}
}

// P10.2: the errors of settings, in their order.
func TestSettingErrors(t *testing.T) {
	for s, want := range map[string]api.Errno{
		"": api.ErrSyntax, " ": api.ErrSyntax, "loop": api.ErrSyntax, "lock": api.ErrSyntax, "frames": api.ErrSyntax, "uplink": api.ErrSyntax,
		"loop ": api.ErrSyntax, "lock ": api.ErrSyntax, "frames ": api.ErrSyntax, "uplink ": api.ErrSyntax,
		"Loop 1 0 2 0": api.ErrSyntax, " loop 1 0 2 0": api.ErrSyntax, "loops 1 0 2 0": api.ErrSyntax, "loo 1 0 2 0": api.ErrSyntax, "loop1 0 2 0": api.ErrSyntax, "gain 1": api.ErrSyntax, "note x": api.ErrSyntax,
		"loop  1 0 2 0": api.ErrSyntax, "loop 1 0 2": api.ErrSyntax, "loop 1 0 2 0 0": api.ErrSyntax, "loop 1 0 2 0 ": api.ErrSyntax, "loop -1 0 2 0": api.ErrSyntax, "loop 1 0 2 10000": api.ErrSyntax,
		"loop 1001 0 2 0": api.ErrRange, "loop 1 0 0 0": api.ErrRange, "loop 1 0 2 2048": api.ErrRange, "loop 1 0 2 -2049": api.ErrRange,
		"lock 1 1": api.ErrSyntax, "lock 1 1 1 1": api.ErrSyntax, "lock 1 1 ": api.ErrSyntax, "lock 1  1 1": api.ErrSyntax, "lock  1 1 1": api.ErrSyntax, "lock 1 1 1 ": api.ErrSyntax,
		"lock -1 1 1": api.ErrSyntax, "lock 1 -1 1": api.ErrSyntax, "lock 1 1 -1": api.ErrSyntax, "lock 01 1 1": api.ErrSyntax, "lock 1 1 +1": api.ErrSyntax, "lock 1 1 10000": api.ErrSyntax, "lock 10000 1 1": api.ErrSyntax,
		"lock 2049 1 1": api.ErrRange, "lock 9999 1 1": api.ErrRange, "lock 0 0 1": api.ErrRange, "lock 0 0 0": api.ErrRange, "lock 0 201 1": api.ErrRange, "lock 0 5 6": api.ErrRange, "lock 0 5 0": api.ErrRange, "lock 0 9999 9999": api.ErrRange,
		"frames 4": api.ErrSyntax, "frames 4 1 1": api.ErrSyntax, "frames 4 1 ": api.ErrSyntax, "frames 4  1": api.ErrSyntax, "frames 4 x": api.ErrSyntax, "frames -4 1": api.ErrSyntax, "frames 04 1": api.ErrSyntax, "frames 4 10000": api.ErrSyntax,
		"frames 3 1": api.ErrRange, "frames 25 1": api.ErrRange, "frames 4 0": api.ErrRange, "frames 4 5": api.ErrRange, "frames 9999 9999": api.ErrRange,
	} {
		added(t, station(), settingEntry(s), want)
		wantError(t, s, settingErrorByDefinition(s), want)
	}
}

// P10.2: the errors of uplinks: of their parts, the model, each act, the numbers, and then of all together.
func TestUplinkErrors(t *testing.T) {
	fails := func(s string, want api.Errno) {
		t.Helper()
		added(t, station(), settingEntry("uplink "+s), want)
		wantError(t, s, settingErrorByDefinition("uplink "+s), want)
	}
	for _, s := range []string{"", "|", exampleModel, exampleModel + "|" + exampleFile, exampleUplink + "|", "|" + exampleUplink, exampleModel + "||" + exampleFile + "|2 2", "||"} {
		fails(s, api.ErrSyntax)
	}
	for model, want := range map[string]api.Errno{
		"": api.ErrSyntax, "a;b": api.ErrSyntax, "a;b -1": api.ErrSyntax, "a;b -1;;": api.ErrSyntax, "a;b -2;": api.ErrSyntax, " a;b -1;": api.ErrSyntax, "9;b -1;": api.ErrName, "a a;b -1;": api.ErrExists, "a;b 1;": api.ErrMissing,
		"a;b -1;r 0 -1 -1 2": api.ErrForm, "a;b -1;r 0 -1 0 0": api.ErrRange, "a b c d e f g;b -1;": api.ErrLarge,
	} {
		for _, file := range []string{"0 0 9", "", "x", "9 9 0"} {
			for _, numbers := range []string{"1 1", "", "0 0"} {
				fails(model+"|"+file+"|"+numbers, want)
			}
		}
	}
	many := strings.TrimSuffix(strings.Repeat("0 0 9,", 13), ",")
	for _, file := range []string{"", ",", "0 0 9,", ",0 0 9", "0 0 9,,0 0 9", "0 0", "0 0 9 9", "0 0 9 ", "0 -1 9", "00 0 9", "0 0 10000000000000", "9 0 9,x", many + ","} {
		for _, numbers := range []string{"1 1", "", "0 0"} {
			fails("a;b -1;|"+file+"|"+numbers, api.ErrSyntax)
		}
	}
	for _, numbers := range []string{"", "1", "1 ", " 1", "1 1 1", "1 1 ", "1  1", "-1 1", "1 -1", "01 1", "1 x", "1 10000", "10000 1", "1;1"} {
		for _, file := range []string{"0 0 9", "9 9 0", many} {
			fails("a;b -1;|"+file+"|"+numbers, api.ErrSyntax)
		}
	}
	for _, numbers := range []string{"1 1", "0 0", "9999 9999"} {
		fails("a;b -1;|1 0 9|"+numbers, api.ErrKind)
		fails("a;b -1;|0 0 9,0 0 1000000000001|"+numbers, api.ErrRange)
		fails("a;b -1;|0 9 8|"+numbers, api.ErrOrder)
		fails("a;b -1;|"+many+"|"+numbers, api.ErrLarge)
	}
	for _, numbers := range []string{"0 1", "7 1", "1 0", "1 7", "0 0", "9999 9999"} {
		fails("a;b -1;|0 0 9|"+numbers, api.ErrRange)
	}
}

// P10.2: "frames" and "uplink" are not changed after they were used, "loop" and "lock" at any time.
func TestBusy(t *testing.T) {
	l := accepted(t, station(), "set ada 20 0 frames 5 1", "set ada 20 0 frames 4 2", "frame bo 21 0 0 5 0 9 0 1 7")
	refused(t, l, "set ada 22 0 frames 4 2", api.ErrBusy)
	refused(t, l, "set ada 22 0 frames 5 1", api.ErrBusy)
	refused(t, l, "set ada 22 0 frames 3 1", api.ErrRange) // its error comes before ErrBusy
	refused(t, l, "set ada 22 0 frames 5", api.ErrSyntax)
	l = accepted(t, l, "set ada 22 0 loop 2 0 2 0", "set ada 22 0 lock 1 1 1", "set ada 23 0 uplink a;b -1;|0 0 9|1 1", "set ada 24 0 uplink "+exampleUplink, "command cy 25 0 send 1")
	refused(t, l, "set ada 26 0 uplink "+exampleUplink, api.ErrBusy)
	refused(t, l, "set ada 26 0 uplink a;b -1;|0 0 9|0 1", api.ErrRange)
	refused(t, l, "set ada 26 0 uplink a;b -1;|0 0 9", api.ErrSyntax)
	refused(t, l, "set ada 26 0 frames 4 2", api.ErrBusy)
	accepted(t, l, "set ada 26 0 loop 3 0 2 0", "set ada 26 0 lock 2 1 1", "take bo 26 0 "+examplePacket, "set ada 26 0 loop 4 0 2 0", "set ada 26 0 lock 3 1 1")
	accepted(t, accepted(t, station(), "take bo 20 0 "+examplePacket, "measure bo 20 0 at 0 1 2"), "set ada 20 0 frames 5 1", "set ada 20 0 uplink a;b -1;|0 0 9|1 1")
	u, e := pass.UplinkOf(l)
	want, _ := uplinkByDefinition(exampleUplink)
	wantValue(t, "the last uplink", u, e, want)
}

// P10.3: the last setting of a word at a time.
func TestSettingAt(t *testing.T) {
	l := with(station(), "set ada 10 0 loop 2 0 2 0", "note ada 11 0 loop 9 0 9 0", "set ada 20 0 loop 3 0 2 -7", "set ada 20 0 loop 4 0 2 0", "set ada 1000000000000 0 loop 5 0 2 0")
	same := func(word string, at int, want string) {
		t.Helper()
		s, e := pass.SettingAt(l, word, at)
		wantValue(t, word, s, e, want)
	}
	fails := func(word string, at int, want api.Errno) {
		t.Helper()
		s, e := pass.SettingAt(l, word, at)
		wantNoValue(t, word, s, e, want)
	}
	same("loop", 4, "1 0 2 0")
	same("loop", 9, "1 0 2 0")
	same("loop", 10, "2 0 2 0")
	same("loop", 19, "2 0 2 0")
	same("loop", 20, "4 0 2 0")
	same("loop", api.MaxTick-1, "4 0 2 0")
	same("loop", api.MaxTick, "5 0 2 0")
	same("lock", 5, "200 2 2")
	same("frames", 6, "4 2")
	same("uplink", api.MaxTick, exampleUplink)
	for word, before := range map[string]int{"loop": 3, "lock": 4, "frames": 5, "uplink": 9} {
		fails(word, before, api.ErrNone)
		fails(word, 0, api.ErrNone)
		for _, at := range badNumbers(0, api.MaxTick) {
			fails(word, at, api.ErrRange)
		}
	}
	for _, word := range []string{"", " ", "Loop", "loop ", "loops", "loo", " loop", "loop 1", "loop 4", "join", "set", "loop 4 0 2", "lock 200"} {
		for _, at := range []int{-1, 20, math.MaxInt} {
			fails(word, at, api.ErrKind)
		}
	}
	s, e := pass.SettingAt(nil, "loop", 0)
	wantNoValue(t, "no log", s, e, api.ErrNone)
}

// P10.3: settings of random logs, by definition.
func TestSettingAtByDefinition(t *testing.T) {
	r := rand.New(rand.NewSource(2))
	for range 100 {
		l := randomLog(r, 40, quiet)
		last := 0
		if len(l) > 0 {
			last = l[len(l)-1].At
		}
		for _, word := range []string{"loop", "lock", "frames", "uplink"} {
			for at := range last + 3 {
				s, e := pass.SettingAt(l, word, at)
				want, ok := settingByDefinition(l, word, at)
				wantResult(t, fmt.Sprint(word, at, l), s, e, want, map[bool]api.Errno{true: api.OK, false: api.ErrNone}[ok])
			}
		}
		for _, word := range []string{"", "gain"} {
			s, e := pass.SettingAt(l, word, 0)
			wantNoValue(t, word, s, e, api.ErrKind)
		}
	}
}

// P10.5: what is in force is read from the string of the last setting.
func TestUplinkOf(t *testing.T) {
	u, e := pass.UplinkOf(exampleLog())
	wantNoValue(t, "no uplink", u, e, api.ErrMissing)
	u, e = pass.UplinkOf(nil)
	wantNoValue(t, "no log", u, e, api.ErrMissing)
	for _, s := range []string{exampleUplink, "a;b -1;|0 0 9|1 6", "a b;c 1,d 0;r 0 1 1 1000000|0 0 1000000000000,1 5 5|6 1"} {
		l := accepted(t, station(), settingEntry("uplink "+s))
		u, e := pass.UplinkOf(l)
		want, _ := uplinkByDefinition(s)
		wantValue(t, s, u, e, want)
		wantError(t, s, command.CheckUplink(u), api.OK)
		u.File[0].Kind, u.Model.Modes[0], u.Model.Kinds[0].Name = -1, "", ""
		again, e := pass.UplinkOf(l)
		wantValue(t, s, again, e, want)
	}
}
