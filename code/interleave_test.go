package code_test

import (
	"math"
	"math/rand"
	"slices"
	"testing"

	"cassegrain/api"
	"cassegrain/code"
)

// P5.4: example 6, and other rows.
func TestInterleaved(t *testing.T) {
	for _, c := range []struct {
		l    []int
		rows int
		want []int
	}{
		{[]int{1, 2, 3, 4, 5, 6}, 2, []int{1, 4, 2, 5, 3, 6}},
		{[]int{1, 2, 3, 4, 5, 6}, 3, []int{1, 3, 5, 2, 4, 6}},
		{[]int{1, 2, 3, 4, 5, 6}, 1, []int{1, 2, 3, 4, 5, 6}},
		{[]int{1, 2, 3, 4, 5, 6}, 6, []int{1, 2, 3, 4, 5, 6}},
		{[]int{math.MinInt, 100, math.MaxInt, -1}, 2, []int{math.MinInt, math.MaxInt, 100, -1}},
		{nil, 1, nil},
		{nil, 400, nil},
		{[]int{}, 7, nil},
	} {
		got, e := code.Interleaved(c.l, c.rows)
		wantSlice(t, c, got, e, c.want)
		back, e := code.Deinterleaved(c.want, c.rows)
		wantSlice(t, c, back, e, c.l)
	}
}

// P5.4: sequences by the definition. P5.11: Deinterleaved undoes Interleaved; of as many neighbours as rows no two are in the same row.
func TestInterleavedByDefinition(t *testing.T) {
	r := rand.New(rand.NewSource(14))
	for range 500 {
		rows := between(r, 1, 20)
		l := numbers(r, rows*r.Intn(400/rows+1), -1000, 1000)
		before := slices.Clone(l)
		got, e := code.Interleaved(l, rows)
		wantSlice(t, rows, got, e, columnsByDefinition(l, rows))
		back, e := code.Deinterleaved(got, rows)
		wantSlice(t, rows, back, e, l)
		other, e := code.Deinterleaved(l, rows)
		wantError(t, rows, e, api.OK)
		wantSame(t, rows, columnsByDefinition(other, rows), l)
		clear(got)
		clear(other)
		wantSame(t, "the sequence", l, before)
		wantSpread(t, len(l)/rows, rows)
	}
}

// wantSpread reports two of as many neighbours as rows that are in the same row.
func wantSpread(t *testing.T, columns, rows int) {
	t.Helper()
	var l []int // the row of each number
	for row := range rows {
		l = append(l, slices.Repeat([]int{row}, columns)...)
	}
	got, e := code.Interleaved(l, rows)
	wantError(t, rows, e, api.OK)
	for i := range got {
		for k := i + 1; k < min(i+rows, len(got)); k++ {
			if got[i] == got[k] {
				t.Fatal(columns, rows, i, k)
			}
		}
	}
}

// P5.4: the errors of a sequence and its rows.
func TestInterleavedErrors(t *testing.T) {
	fails := func(length, rows int, want api.Errno) {
		t.Helper()
		for _, f := range []func([]int, int) ([]int, api.Errno){code.Interleaved, code.Deinterleaved} {
			got, e := f(make([]int, length), rows)
			wantNothing(t, []int{length, rows}, got, 0, e, want)
		}
	}
	fails(401, 1, api.ErrLarge)
	fails(401, 0, api.ErrLarge) // before the rows
	fails(1000, 2, api.ErrLarge)
	for _, rows := range badNumbers(1, 400) {
		for _, length := range []int{0, 7, 400} {
			fails(length, rows, api.ErrRange)
		}
	}
	fails(400, 3, api.ErrShape)
	fails(7, 2, api.ErrShape)
	fails(3, 6, api.ErrShape)
	fails(1, 400, api.ErrShape)
	for _, rows := range []int{1, 2, 400} {
		got, e := code.Interleaved(make([]int, 400), rows)
		wantSlice(t, rows, got, e, make([]int, 400))
	}
}
