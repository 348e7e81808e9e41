package pass_test

import (
	"fmt"
	"math/rand"
	"strconv"
	"strings"
	"testing"

	"cassegrain/api"
	"cassegrain/frame"
	"cassegrain/pass"
)

// answered reports an answer that differs from the wanted one.
func answered(t *testing.T, l []api.PassEntry, line, want string) {
	t.Helper()
	s, e := pass.Answer(l, line)
	wantValue(t, line, s, e, want)
}

// unanswered reports a question that is answered, or has another error.
func unanswered(t *testing.T, l []api.PassEntry, line string, want api.Errno) {
	t.Helper()
	s, e := pass.Answer(l, line)
	wantNoValue(t, strconv.Quote(line), s, e, want)
}

// P10.8: the examples.
func TestAnswerExamples(t *testing.T) {
	l := exampleLog()
	answered(t, l, "count", "5")
	answered(t, l, "role bo", "1")
	answered(t, l, "role ada", "2")
	answered(t, l, "lock", "6 4 2")
	framed := with(l, "set ada 30 0 frames 4 2", "frame bo 31 0 0 5 0 9 0 1 7")
	answered(t, framed, "packets 0", "9 0 7")
	answered(t, framed, "packets 1", "")
	answered(t, with(framed, "measure bo 40 0 at 0 100 120"), "distance 0", "100/1 120/1")
	answered(t, with(l, "measure bo 40 0 at 0 -20 -7"), "distance 0", "-20/1 -7/1")
	answered(t, nil, "count", "0")
	answered(t, with(l[:4], "take bo 20 0 "+packet(7, 1, 0, 0)), "lock", "0 0 -1")
}

// P10.8: answers of a log with entries of all kinds.
func TestAnswer(t *testing.T) {
	l := longLog()
	answered(t, l, "count", "22")
	answered(t, l, "role vi", "0")
	answered(t, l, "role cy", "3")
	answered(t, l, "distance 5", "110/1 223/2")
	answered(t, l, "distance 1000", "1902/1 2200/1")
	answered(t, l, "packets 1", "9 0 1 2,9 1 3")
	answered(t, l, "packets 0", "")
	answered(t, l, "done", "7")
	answered(t, station(), "done", "")
	more := with(l, "command cy 40 0 pass 20", "command cy 40 0 send 1", "command cy 40 0 arrive 0", "command cy 41 0 send 2", "command cy 42 0 pass 10", "command cy 42 0 arrive 0")
	answered(t, more, "done", "7 27 37")
	answered(t, with(more, "end ada 50 0 "), "count", "29")
}

// P10.8: lines that are no questions.
func TestAnswerSyntax(t *testing.T) {
	for _, line := range []string{
		"", " ", "x", "Count", "count ", " count", "count 1", "counts", "coun", "count\n", "lock ", " lock", "lock 1", "locked", "done ", "done 0", " done", "role", "roles ada", "Role ada", " role ada", "role\tada",
		"distance", "packets", "distance 0 ", "distance  0", " distance 0", "distance 0 0", "packets 0 ", "packets  0", " packets 0", "packets 0 0", "distances 0", "packet 0", "distance\t0", "distance0", "packets0",
	} {
		for _, l := range [][]api.PassEntry{nil, exampleLog(), longLog()} {
			unanswered(t, l, line, api.ErrSyntax)
		}
	}
	for _, n := range []string{"", "-1", "-0", "+1", "01", "00", "x", "1x", "1.0", "1\n", "\u0661", "/", ":", "10000", "00001", "18446744073709551616"} {
		unanswered(t, longLog(), "distance "+n, api.ErrSyntax)
		unanswered(t, longLog(), "packets "+n, api.ErrSyntax)
	}
	for _, n := range []string{"10", "99", "999", "9999"} {
		unanswered(t, longLog(), "packets "+n, api.ErrSyntax)
	}
	unanswered(t, longLog(), strings.Repeat("count", 100000), api.ErrSyntax)
}

// P10.8: the errors of the functions.
func TestAnswerErrors(t *testing.T) {
	for _, l := range [][]api.PassEntry{nil, exampleLog(), longLog()} {
		for _, name := range badNames() {
			unanswered(t, l, "role "+name, api.ErrName)
		}
		for _, name := range []string{"eve", "Ada", "count"} {
			unanswered(t, l, "role "+name, api.ErrMissing)
		}
		unanswered(t, l, "role ada ", api.ErrName)
		unanswered(t, l, "role  ada", api.ErrName)
		unanswered(t, l, "distance 1001", api.ErrRange)
		unanswered(t, l, "distance 9999", api.ErrRange)
	}
	unanswered(t, nil, "lock", api.ErrMissing)
	unanswered(t, exampleLog()[:3], "lock", api.ErrMissing)
	unanswered(t, exampleLog()[:4], "lock", api.ErrNone)
	unanswered(t, exampleLog(), "distance 0", api.ErrOpen)
	unanswered(t, with(exampleLog(), "measure bo 40 0 at 0 1 2", "measure bo 40 0 at 0 3 4"), "distance 0", api.ErrClash)
	unanswered(t, exampleLog(), "packets 0", api.ErrMissing)
	unanswered(t, exampleLog(), "done", api.ErrMissing)
	for _, n := range []string{"2", "9"} {
		unanswered(t, longLog(), "packets "+n, api.ErrMissing)
	}
	long := exampleLog()
	for i := range 25 {
		long = append(long, entry("take bo 30 0 "+packet(1+i, 1, 1, 0)))
	}
	unanswered(t, long, "lock", api.ErrLarge)
}

// P10.8: answers of random logs, by definition.
func TestAnswerByDefinition(t *testing.T) {
	r := rand.New(rand.NewSource(10))
	for range 150 {
		l := randomLog(r, 60, quiet)
		before := text(l)
		same := func(line, want string, wanted api.Errno) {
			t.Helper()
			s, e := pass.Answer(l, line)
			wantResult(t, line+before, s, e, want, wanted)
		}
		same("count", fmt.Sprint(len(l)), api.OK)
		for _, name := range names() {
			role, e := pass.RoleOf(l, name)
			same("role "+name, fmt.Sprint(role), e)
		}
		report, e := replayByDefinition(l)
		same("lock", fmt.Sprint(report.Used, report.Locked, report.First), e)
		for _, time := range []int{0, 5, 12, 100, 1000, 1001} {
			d, e := pass.DistanceOf(l, time)
			same(fmt.Sprint("distance ", time), fmt.Sprintf("%d/%d %d/%d", d[0].Num, d[0].Den, d[1].Num, d[1].Den), e)
		}
		for channel := range 10 {
			packets, e := packetsByDefinition(l, channel)
			var strs []string
			for _, p := range packets {
				strs = append(strs, frame.FormatPacket(p))
			}
			same(fmt.Sprint("packets ", channel), strings.Join(strs, ","), e)
		}
		_, state, e := linkByDefinition(l)
		var times []string
		for _, d := range state.Done {
			times = append(times, fmt.Sprint(d.At))
		}
		same("done", strings.Join(times, " "), e)
		wantSame(t, l, before)
	}
}
