package pass_test

import (
	"fmt"
	"math"
	"math/rand"
	"regexp"
	"slices"
	"strconv"
	"strings"
	"testing"

	"cassegrain/api"
	"cassegrain/carrier"
	"cassegrain/command"
	"cassegrain/frame"
	"cassegrain/pass"
	"cassegrain/ranging"
	"cassegrain/sample"
)

// The tests compare the package with the definitions of the chapter, which this file computes slowly: everything about an entry from all entries before it, again and again.

// wantError reports an error that differs from the wanted one.
func wantError(t *testing.T, what any, got, want api.Errno) {
	t.Helper()
	if got != want {
		t.Errorf("%v: error %d, want %d", what, got, want)
	}
}

// text returns a string that is equal for equal values; a nil slice is an empty one.
func text(x any) string {
	return fmt.Sprintf("%+v", x)
}

// wantResult reports a result or an error that differs from the wanted one. Beside an error the result is its zero value.
func wantResult[T any](t *testing.T, what any, got T, e api.Errno, want T, wanted api.Errno) {
	t.Helper()
	wantError(t, what, e, wanted)
	if wanted != api.OK {
		want = *new(T)
	}
	if text(got) != text(want) {
		t.Errorf("%v: %+v, want %+v", what, got, want)
	}
}

// wantValue reports a result that differs from the wanted one, or an error.
func wantValue[T any](t *testing.T, what any, got T, e api.Errno, want T) {
	t.Helper()
	wantResult(t, what, got, e, want, api.OK)
}

// wantNoValue reports an error that differs from the wanted one, and a result beside it.
func wantNoValue[T any](t *testing.T, what any, got T, e, want api.Errno) {
	t.Helper()
	wantResult(t, what, got, e, got, want)
}

// wantSame reports an argument that was modified.
func wantSame(t *testing.T, now any, before string) {
	t.Helper()
	if text(now) != before {
		t.Errorf("%v was modified: %v", before, now)
	}
}

// between returns a random number from lo to hi.
func between(r *rand.Rand, lo, hi int) int {
	return lo + r.Intn(hi-lo+1)
}

// badNumbers returns numbers that are not from lo to hi.
func badNumbers(lo, hi int) []int {
	return []int{math.MinInt, lo - 1000, lo - 1, hi + 1, hi + 1000, math.MaxInt}
}

// words returns the words of the kinds of entries.
func words() []string {
	return []string{"join", "set", "take", "frame", "measure", "command", "note", "end"}
}

// entry returns the entry with a string, which need not be valid.
func entry(s string) api.PassEntry {
	p := strings.SplitN(s, " ", 5)
	at, _ := strconv.Atoi(p[2])
	n, _ := strconv.Atoi(p[3])
	return api.PassEntry{Kind: slices.Index(words(), p[0]), By: p[1], At: at, Number: n, Text: p[4]}
}

// with returns a log with further entries.
func with(l []api.PassEntry, lines ...string) []api.PassEntry {
	l = slices.Clone(l)
	for _, s := range lines {
		l = append(l, entry(s))
	}
	return l
}

// exampleLog returns the log of the examples. Its second entry is made by ada, since bo, who makes it in the document, has no role before it.
func exampleLog() []api.PassEntry {
	return with(nil,
		"join ada 0 2 ada", "join ada 5 1 bo", "set ada 10 0 loop 1 0 2 0", "set ada 10 0 lock 200 2 2",
		"take bo 20 0 "+examplePacket,
	)
}

const (
	examplePacket = "0 1 5 0 5 0 5 0 5 0 5 0 5 0 0 0 0 0"
	exampleModel  = "safe cruise burn;wake 1,fire 2,stop 1,ping -1;cold 1 0 -1 1,heat 1 -1 2 50"
	exampleFile   = "0 0 100,1 20 200,2 30 300,1 40 400"
	exampleUplink = exampleModel + "|" + exampleFile + "|2 2"
)

// station returns a log of ada, an engineer, bo, an operator, cy, a controller, and vi, a viewer, with settings of all words in force. Its last entry is at 10.
func station() []api.PassEntry {
	return with(nil,
		"join ada 0 2 ada", "join ada 1 1 bo", "join ada 2 3 cy", "join ada 3 0 vi",
		"set ada 4 0 loop 1 0 2 0", "set ada 5 0 lock 200 2 2", "set ada 6 0 frames 4 2", "set ada 10 0 uplink "+exampleUplink,
	)
}

// longLog returns a log with entries of all kinds but PassEnd.
func longLog() []api.PassEntry {
	return with(station(),
		"take bo 20 0 "+examplePacket, "frame bo 21 0 1 5 0 9 0 2 1", "measure bo 22 0 at 0 100 102", "command cy 23 0 send 0",
		"command cy 24 0 pass 7", "command cy 25 0 arrive 0", "note vi 26 0 ", "note vi 26 0 two words ", "frame bo 27 0 1 6 1 2 9 1 1", "frame bo 28 0 1 7 1 3 255 0 0",
		"measure bo 29 0 at 10 120 121", "take bo 30 0 2 1 0 5 0 5 0 5 0 5 0 0 0 0 0 0 0 0", "command cy 31 0 hear 0", "set ada 32 0 lock 300 1 1",
	)
}

// added reports an entry that is refused, or accepted, against the wanted error after a valid log, and returns the log with it if it is accepted.
func added(t *testing.T, l []api.PassEntry, s string, want api.Errno) []api.PassEntry {
	t.Helper()
	e := entry(s)
	before := text(l)
	all, errno := pass.Appended(l, e)
	wantResult(t, s, all, errno, append(slices.Clone(l), e), want)
	i, errno := pass.CheckLog(append(slices.Clone(l), e))
	if want == api.OK {
		wantValue(t, s, i, errno, 0)
	} else {
		wantError(t, s, errno, want)
		if i != len(l) {
			t.Errorf("%v: index %d, want %d", s, i, len(l))
		}
	}
	wantSame(t, l, before)
	return all
}

// refused reports an entry that is accepted after a valid log, or refused with another error.
func refused(t *testing.T, l []api.PassEntry, s string, want api.Errno) {
	t.Helper()
	added(t, l, s, want)
}

// accepted returns a valid log with further entries that must be accepted one after the other.
func accepted(t *testing.T, l []api.PassEntry, lines ...string) []api.PassEntry {
	t.Helper()
	for _, s := range lines {
		l = added(t, l, s, api.OK)
	}
	return l
}

// The forms of names, of texts, and of the numbers of settings.
var (
	nameForm  = regexp.MustCompile(`\A[A-Za-z][A-Za-z0-9-]{0,11}\z`)
	textForm  = regexp.MustCompile(`\A[ -~]*\z`)
	twoForm   = regexp.MustCompile(`\A(?:0|[1-9][0-9]{0,3}) (?:0|[1-9][0-9]{0,3})\z`)
	threeForm = regexp.MustCompile(`\A(?:0|[1-9][0-9]{0,3}) (?:0|[1-9][0-9]{0,3}) (?:0|[1-9][0-9]{0,3})\z`)
)

// entryErrorByDefinition returns the error of an entry alone.
func entryErrorByDefinition(e api.PassEntry) api.Errno {
	switch joins := e.Kind == api.PassJoin; {
	case e.Kind < 0 || e.Kind > 7:
		return api.ErrKind
	case !nameForm.MatchString(e.By):
		return api.ErrName
	case e.At < 0 || e.At > 1000000000000, joins && (e.Number < 0 || e.Number > 3):
		return api.ErrRange
	case !joins && e.Number != 0:
		return api.ErrForm
	case len(e.Text) > 800:
		return api.ErrLarge
	case !textForm.MatchString(e.Text):
		return api.ErrForm
	case joins && !nameForm.MatchString(e.Text):
		return api.ErrName
	case e.Kind == api.PassEnd && len(e.Text) > 0:
		return api.ErrForm
	}
	return api.OK
}

// peopleByDefinition returns the names of all persons who have a role.
func peopleByDefinition(l []api.PassEntry) []string {
	var people []string
	for _, e := range l {
		if e.Kind == api.PassJoin && !slices.Contains(people, e.Text) {
			people = append(people, e.Text)
		}
	}
	return people
}

// roleByDefinition returns the role of a person, -1 if there is none.
func roleByDefinition(l []api.PassEntry, name string) int {
	role := -1
	for _, e := range l {
		if e.Kind == api.PassJoin && e.Text == name {
			role = e.Number
		}
	}
	return role
}

// settingByDefinition returns the string of the last setting of a word up to a time.
func settingByDefinition(l []api.PassEntry, word string, at int) (string, bool) {
	found := ""
	for _, e := range l {
		if e.Kind == api.PassSet && e.At <= at && strings.HasPrefix(e.Text, word+" ") {
			found = e.Text
		}
	}
	_, s, ok := strings.Cut(found, " ")
	return s, ok
}

// inForceByDefinition returns the string of the last setting of a word.
func inForceByDefinition(l []api.PassEntry, word string) (string, bool) {
	return settingByDefinition(l, word, math.MaxInt)
}

// countOf returns how many entries of a kind there are.
func countOf(l []api.PassEntry, kind int) int {
	return len(parsed(l, kind, func(s string) (string, api.Errno) { return s, api.OK }))
}

// parsed returns what the texts of all entries of a kind say.
func parsed[T any](l []api.PassEntry, kind int, parse func(string) (T, api.Errno)) []T {
	var items []T
	for _, e := range l {
		if e.Kind == kind {
			item, _ := parse(e.Text)
			items = append(items, item)
		}
	}
	return items
}

// numbersOf returns the numbers of a string.
func numbersOf(s string) []int {
	var l []int
	for _, word := range strings.Split(s, " ") {
		n, _ := strconv.Atoi(word)
		l = append(l, n)
	}
	return l
}

func lockByDefinition(s string) api.CarrierLock {
	l := numbersOf(s)
	return api.CarrierLock{Limit: l[0], Window: l[1], Need: l[2]}
}

func rulesByDefinition(s string) api.FrameRules {
	l := numbersOf(s)
	return api.FrameRules{Length: l[0], Channels: l[1]}
}

// uplinkByDefinition returns the uplink of a setting, and its error.
func uplinkByDefinition(s string) (api.CommandUplink, api.Errno) {
	parts := strings.Split(s, "|")
	if len(parts) != 3 {
		return api.CommandUplink{}, api.ErrSyntax
	}
	model, e := command.ParseModel(parts[0])
	if e != api.OK {
		return api.CommandUplink{}, e
	}
	u := api.CommandUplink{Model: model}
	for _, word := range strings.Split(parts[1], ",") {
		act, e := command.ParseAct(word)
		if e != api.OK {
			return api.CommandUplink{}, e
		}
		u.File = append(u.File, act)
	}
	if !twoForm.MatchString(parts[2]) {
		return api.CommandUplink{}, api.ErrSyntax
	}
	l := numbersOf(parts[2])
	u.Window, u.Flight = l[0], l[1]
	return u, command.CheckUplink(u)
}

// settingErrorByDefinition returns the error of a setting.
func settingErrorByDefinition(setting string) api.Errno {
	word, s, separated := strings.Cut(setting, " ")
	switch {
	case !separated:
		return api.ErrSyntax
	case word == "loop":
		_, e := carrier.ParseLoop(s)
		return e
	case word == "lock" && threeForm.MatchString(s):
		_, e := carrier.LockOf(lockByDefinition(s), nil)
		return e
	case word == "frames" && twoForm.MatchString(s):
		return frame.CheckRules(rulesByDefinition(s))
	case word == "uplink":
		_, e := uplinkByDefinition(s)
		return e
	}
	return api.ErrSyntax
}

// mayMakeByDefinition says whether the maker of an entry may make it after a valid log.
func mayMakeByDefinition(l []api.PassEntry, e api.PassEntry) bool {
	if len(l) == 0 {
		return e.Kind == api.PassJoin && e.Text == e.By && e.Number == api.PassEngineer
	}
	role := roleByDefinition(l, e.By)
	switch e.Kind {
	case api.PassJoin, api.PassSet, api.PassEnd:
		return role == api.PassEngineer
	case api.PassTake, api.PassFrame, api.PassMeasure:
		return role == api.PassOperator
	case api.PassCommand:
		return role == api.PassController
	}
	return role >= 0
}

// errorByDefinition returns the error of an entry after a valid log.
func errorByDefinition(l []api.PassEntry, e api.PassEntry) api.Errno {
	if errno := entryErrorByDefinition(e); errno != api.OK {
		return errno
	}
	switch {
	case len(l) > 0 && e.At < l[len(l)-1].At:
		return api.ErrOrder
	case countOf(l, api.PassEnd) > 0:
		return api.ErrState
	case !mayMakeByDefinition(l, e):
		return api.ErrAllowed
	}
	switch e.Kind {
	case api.PassJoin:
		if len(peopleByDefinition(append(slices.Clone(l), e))) > 10 {
			return api.ErrFull
		}
	case api.PassSet:
		if errno := settingErrorByDefinition(e.Text); errno != api.OK {
			return errno
		}
		used := map[string]int{"frames": countOf(l, api.PassFrame), "uplink": countOf(l, api.PassCommand)}
		if word, _, _ := strings.Cut(e.Text, " "); used[word] > 0 {
			return api.ErrBusy
		}
	case api.PassTake, api.PassFrame, api.PassMeasure, api.PassCommand:
		return receivedErrorByDefinition(l, e)
	}
	return api.OK
}

// receivedErrorByDefinition returns the error of what was received or sent after a valid log.
func receivedErrorByDefinition(l []api.PassEntry, e api.PassEntry) api.Errno {
	var errno api.Errno
	all := append(slices.Clone(l), e)
	switch e.Kind {
	case api.PassTake:
		if _, errno = sample.ParsePacket(e.Text); errno == api.OK {
			_, errno = sample.Assembled(parsed(all, api.PassTake, sample.ParsePacket))
		}
	case api.PassFrame:
		s, ok := inForceByDefinition(l, "frames")
		if !ok {
			return api.ErrMissing
		}
		f, errno := frame.ParseFrame(e.Text)
		if errno == api.OK {
			errno = frame.CheckFrame(rulesByDefinition(s), f)
		}
		if errno == api.OK && countOf(all, api.PassFrame) > 40 {
			errno = api.ErrFull
		}
		return errno
	case api.PassMeasure:
		if _, errno = ranging.ParseMeasurement(e.Text); errno == api.OK && countOf(all, api.PassMeasure) > 12 {
			errno = api.ErrFull
		}
	case api.PassCommand:
		s, ok := inForceByDefinition(l, "uplink")
		if !ok {
			return api.ErrMissing
		}
		if _, errno = command.ParseEvent(e.Text); errno == api.OK {
			u, _ := uplinkByDefinition(s)
			_, _, errno = command.Replay(u, parsed(all, api.PassCommand, command.ParseEvent))
		}
	}
	return errno
}

// checkByDefinition returns the index and the error of a log.
func checkByDefinition(l []api.PassEntry) (int, api.Errno) {
	if len(l) > 60 {
		return 0, api.ErrLarge
	}
	for i, e := range l {
		if errno := errorByDefinition(l[:i], e); errno != api.OK {
			return i, errno
		}
	}
	return 0, api.OK
}

// phasesByDefinition returns the phases of the stream of a valid log, and how many samples the stream has.
func phasesByDefinition(l []api.PassEntry) ([]int, int) {
	stream, _ := sample.Assembled(parsed(l, api.PassTake, sample.ParsePacket))
	var phases []int
	for _, g := range stream.Samples {
		if g.Re != 0 || g.Im != 0 {
			phase, _ := carrier.PhaseOf(g)
			phases = append(phases, phase)
		}
	}
	return phases, len(stream.Samples)
}

// playByDefinition plays a valid log step by step.
func playByDefinition(l []api.PassEntry, loop api.CarrierLoop, lock api.CarrierLock) (api.PassReport, api.Errno) {
	phases, samples := phasesByDefinition(l)
	if samples == 0 {
		return api.PassReport{}, api.ErrNone
	}
	if len(phases) > 200 {
		return api.PassReport{}, api.ErrLarge
	}
	report := api.PassReport{Samples: samples, Used: len(phases), First: -1}
	state, _ := carrier.Begin(loop)
	var small []bool
	for n, phase := range phases {
		report.State = state
		next, deviation, _ := carrier.Advance(loop, state, phase)
		state = next
		small = append(small, -lock.Limit <= deviation && deviation <= lock.Limit)
		count := 0
		for i := max(0, n-lock.Window+1); i <= n; i++ {
			if small[i] {
				count++
			}
		}
		if count >= lock.Need {
			report.Locked++
			if report.First < 0 {
				report.First = n
			}
		}
	}
	return report, api.OK
}

// replayByDefinition plays a valid log with the settings in force.
func replayByDefinition(l []api.PassEntry) (api.PassReport, api.Errno) {
	loop, hasLoop := inForceByDefinition(l, "loop")
	lock, hasLock := inForceByDefinition(l, "lock")
	if !hasLoop || !hasLock {
		return api.PassReport{}, api.ErrMissing
	}
	parsedLoop, _ := carrier.ParseLoop(loop)
	return playByDefinition(l, parsedLoop, lockByDefinition(lock))
}

// packetsByDefinition returns the packets of a channel of a valid log.
func packetsByDefinition(l []api.PassEntry, channel int) ([]api.FramePacket, api.Errno) {
	s, ok := inForceByDefinition(l, "frames")
	if !ok {
		return nil, api.ErrMissing
	}
	return frame.Extracted(rulesByDefinition(s), channel, parsed(l, api.PassFrame, frame.ParseFrame))
}

// linkByDefinition returns the uplink of a valid log, and the state of its link.
func linkByDefinition(l []api.PassEntry) (api.CommandUplink, api.CommandState, api.Errno) {
	s, ok := inForceByDefinition(l, "uplink")
	if !ok {
		return api.CommandUplink{}, api.CommandState{}, api.ErrMissing
	}
	u, _ := uplinkByDefinition(s)
	state, _, e := command.Replay(u, parsed(l, api.PassCommand, command.ParseEvent))
	return u, state, e
}

// stringByDefinition returns the string of a valid entry.
func stringByDefinition(e api.PassEntry) string {
	return fmt.Sprintf("%s %s %d %d %s", words()[e.Kind], e.By, e.At, e.Number, e.Text)
}

// sumByDefinition returns the sum of a string after a number.
func sumByDefinition(s string, after int) int {
	for _, b := range []byte(s) {
		after = (257*after + int(b) + 1) % 1000003
	}
	return after
}

// journalOf returns the journal of strings of entries, which need not be valid.
func journalOf(lines ...string) string {
	journal, sum := "", 0
	for _, s := range lines {
		sum = sumByDefinition(s, sum)
		journal += fmt.Sprintf("%d %s\n", sum, s)
	}
	return journal
}

// journalByDefinition returns the journal of a valid log.
func journalByDefinition(l []api.PassEntry) string {
	var lines []string
	for _, e := range l {
		lines = append(lines, stringByDefinition(e))
	}
	return journalOf(lines...)
}

// mergedByDefinition merges two valid logs.
func mergedByDefinition(a, b []api.PassEntry) []api.PassEntry {
	i := 0
	for i < len(a) && i < len(b) && a[i] == b[i] {
		i++
	}
	l := slices.Clone(a[:i])
	a, b = a[i:], b[i:]
	for len(a) > 0 || len(b) > 0 {
		switch {
		case len(b) == 0:
			l, a = append(l, a[0]), a[1:]
		case len(a) == 0:
			l, b = append(l, b[0]), b[1:]
		case a[0] == b[0]:
			l, a, b = append(l, a[0]), a[1:], b[1:]
		case a[0].At < b[0].At, a[0].At == b[0].At && stringByDefinition(a[0]) < stringByDefinition(b[0]):
			l, a = append(l, a[0]), a[1:]
		default:
			l, b = append(l, b[0]), b[1:]
		}
	}
	return l
}
