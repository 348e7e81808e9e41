package code

import (
	"cassegrain/api"
	"cassegrain/check"
)

// rowsCheck is the check of a sequence and its number of rows.
func rowsCheck(l []int, rows int) func() api.Errno {
	return func() api.Errno {
		return check.First(
			check.Require(api.ErrLarge, func() bool { return len(l) <= api.MaxCodeList }),
			check.Range(rows, 1, api.MaxCodeList),
			check.Require(api.ErrShape, func() bool { return len(l)%rows == 0 }),
		)
	}
}

// moved returns where interleaving moves the number at a position of a sequence that is not empty.
func moved(at, length, rows int) int {
	columns := length / rows
	return at%columns*rows + at/columns
}

// interleaved returns a sequence, whose length the number of rows divides, interleaved.
func interleaved(l []int, rows int) []int {
	out := make([]int, len(l))
	for at, n := range l {
		out[moved(at, len(l), rows)] = n
	}
	return out
}

// deinterleaved returns the sequence whose interleaving is l.
func deinterleaved(l []int, rows int) []int {
	out := make([]int, len(l))
	for at := range out {
		out[at] = l[moved(at, len(l), rows)]
	}
	return out
}

// Interleaved returns a sequence interleaved.
func Interleaved(l []int, rows int) ([]int, api.Errno) {
	if e := rowsCheck(l, rows)(); e != api.OK {
		return nil, e
	}
	return interleaved(l, rows), api.OK
}

// Deinterleaved returns the sequence whose interleaving is l.
func Deinterleaved(l []int, rows int) ([]int, api.Errno) {
	if e := rowsCheck(l, rows)(); e != api.OK {
		return nil, e
	}
	return deinterleaved(l, rows), api.OK
}
