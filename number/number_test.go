package number_test

import (
	"slices"
	"testing"

	"cassegrain/number"
)

func TestWithin(t *testing.T) {
	for x, want := range map[int]bool{1: false, 2: true, 3: true, 4: true, 5: false} {
		if number.Within(x, 2, 4) != want {
			t.Error(x)
		}
	}
}

func TestSize(t *testing.T) {
	for x, want := range map[int]int{-7: 7, 0: 0, 7: 7} {
		if n := number.Size(x); n != want {
			t.Error(x, n)
		}
	}
}

func TestDivision(t *testing.T) {
	for num := -20; num <= 20; num++ {
		for den := 1; den <= 7; den++ {
			down, up, rest := number.Floor(num, den), number.Ceiling(num, den), number.Modulo(num, den)
			if down*den > num || (down+1)*den <= num {
				t.Error(num, den, down)
			}
			if up*den < num || (up-1)*den >= num {
				t.Error(num, den, up)
			}
			if rest != num-down*den || rest < 0 || rest >= den {
				t.Error(num, den, rest)
			}
		}
	}
}

func TestRead(t *testing.T) {
	for s, want := range map[string]struct {
		n              int
		whole, natural bool
	}{
		"0":     {0, true, true},
		"7":     {7, true, true},
		"190":   {190, true, true},
		"999":   {999, true, true},
		"-1":    {-1, true, false},
		"-999":  {-999, true, false},
		"":      {},
		"-":     {},
		"-0":    {},
		"--1":   {},
		"+1":    {},
		"01":    {},
		"-01":   {},
		"1000":  {},
		"-1000": {},
		" 1":    {},
		"1 ":    {},
		"1a":    {},
		"/":     {},
		":":     {},
	} {
		n, ok := number.ReadWhole(s, 3)
		if ok != want.whole || ok && n != want.n {
			t.Error(s, n, ok)
		}
		n, ok = number.ReadNatural(s, 3)
		if ok != want.natural || ok && n != want.n {
			t.Error(s, n, ok)
		}
	}
}

func TestWords(t *testing.T) {
	words := number.Words{Count: 3, Unsigned: 1, Digits: 2}
	for s, want := range map[string][]int{
		"1 2 3":     {1, 2, 3},
		"99 -99 -9": {99, -99, -9},
		"0 0 0":     {0, 0, 0},
		"-1 2 3":    nil,
		"1 2":       nil,
		"1 2 3 4":   nil,
		"1 2 3 ":    nil,
		" 1 2 3":    nil,
		"1  2 3":    nil,
		"1 2  3":    nil,
		"1 2 100":   nil,
		"100 2 3":   nil,
		"1 -0 3":    nil,
		"1 2 x":     nil,
		"1\t2\t3":   nil,
		"":          nil,
	} {
		numbers, ok := words.Read(s)
		if ok != (want != nil) || !slices.Equal(numbers, want) {
			t.Errorf("%q: %v %v", s, numbers, ok)
		}
	}
	if numbers, ok := (number.Words{Count: 2, Unsigned: 2, Digits: 1}).Read("1 -2"); ok {
		t.Error(numbers)
	}
}

func TestJoin(t *testing.T) {
	for want, numbers := range map[string][]int{"": nil, "7": {7}, "3 -4 0": {3, -4, 0}} {
		if s := number.Join(numbers...); s != want {
			t.Errorf("%v: %q", numbers, s)
		}
	}
}
