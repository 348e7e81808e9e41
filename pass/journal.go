package pass

import (
	"strconv"
	"strings"

	"cassegrain/api"
	"cassegrain/check"
)

const (
	lineEnd   = "\n"
	sumFactor = 257
)

// sumOf returns the sum of a string after a number.
func sumOf(s string, after int) int {
	for i := range len(s) {
		after = (after*sumFactor + int(s[i]) + 1) % api.PassPrime
	}
	return after
}

// SumOf returns the sum of a string after a number.
func SumOf(s string, after int) (int, api.Errno) {
	if e := check.Range(after, 0, api.PassPrime-1)(); e != api.OK {
		return 0, e
	}
	return sumOf(s, after), api.OK
}

// Journal returns the journal of a log.
func Journal(l []api.PassEntry) (string, api.Errno) {
	return ask(l, func(r *record) (string, api.Errno) { return r.journal(), api.OK })
}

// journal returns the journal of the record.
func (r *record) journal() string {
	var lines strings.Builder
	sum := 0
	for _, e := range r.entries {
		s := FormatEntry(e)
		sum = sumOf(s, sum)
		lines.WriteString(strconv.Itoa(sum) + " " + s + lineEnd)
	}
	return lines.String()
}

// recovery is what was recovered of a journal: the record of its lines, the sum of the last one, and the number of their bytes.
type recovery struct {
	*record
	sum, bytes int
}

// read recovers the next line, given without its line feed, and says whether it can be recovered.
func (x *recovery) read(line string) bool {
	digits, s, _ := strings.Cut(line, " ")
	sum := sumOf(s, x.sum)
	if digits != strconv.Itoa(sum) {
		return false
	}
	e, errno := ParseEntry(s)
	if errno != api.OK || x.add(e) != api.OK {
		return false
	}
	x.sum = sum
	x.bytes += len(line) + len(lineEnd)
	return true
}

// recovered recovers the longest beginning of a string that is a journal. As every beginning of a valid log is valid, it ends before the first line that cannot be recovered.
func recovered(s string) (recovery, api.Errno) {
	x := recovery{record: newRecord()}
	if len(s) > api.MaxString {
		return x, api.ErrLarge
	}
	for ended := range strings.Lines(s) {
		line, whole := strings.CutSuffix(ended, lineEnd)
		if !whole || !x.read(line) {
			break
		}
	}
	return x, api.OK
}

// Recovered returns the entries of the longest beginning of a string that is the journal of a valid log, and the number of its bytes.
func Recovered(s string) ([]api.PassEntry, int, api.Errno) {
	x, e := recovered(s)
	return x.entries, x.bytes, e
}

// CheckJournal checks that a string is the journal of a valid log. Beside an error it returns how many entries are recovered.
func CheckJournal(s string) (int, api.Errno) {
	x, e := recovered(s)
	if e != api.OK {
		return 0, e
	}
	rest := s[x.bytes:]
	switch {
	case rest == "":
		return 0, api.OK
	case strings.Contains(rest, lineEnd):
		return len(x.entries), api.ErrSum
	}
	return len(x.entries), api.ErrGap
}
