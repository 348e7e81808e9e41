package number_test

import (
	"math"
	"testing"

	"cassegrain/api"
	"cassegrain/number"
)

func TestIsLowest(t *testing.T) {
	for f, want := range map[api.Frac]bool{
		{}:                                   false,
		{Num: 0, Den: 1}:                     true,
		{Num: 0, Den: 2}:                     false,
		{Num: 1, Den: 0}:                     false,
		{Num: 7, Den: 1}:                     true,
		{Num: -7, Den: 1}:                    true,
		{Num: 7, Den: -1}:                    false,
		{Num: -7, Den: -2}:                   false,
		{Num: 9, Den: 4}:                     true,
		{Num: -9, Den: 4}:                    true,
		{Num: 9, Den: 6}:                     false,
		{Num: -9, Den: 6}:                    false,
		{Num: 6, Den: 9}:                     false,
		{Num: 3, Den: 3}:                     false,
		{Num: math.MinInt, Den: 3}:           true,
		{Num: math.MinInt, Den: 2}:           false,
		{Num: math.MinInt, Den: math.MaxInt}: true,
		{Num: math.MaxInt, Den: math.MaxInt}: false,
		{Num: 1, Den: math.MaxInt}:           true,
		{Num: 1, Den: math.MinInt}:           false,
		{Num: math.MinInt, Den: -1}:          false,
	} {
		if number.IsLowest(f) != want {
			t.Error(f)
		}
	}
}

func TestCommonDivisor(t *testing.T) {
	for f, want := range map[api.Frac]int{
		{Num: 0, Den: 5}:                     5,
		{Num: 5, Den: 0}:                     5,
		{Num: 1, Den: 1}:                     1,
		{Num: 12, Den: 18}:                   6,
		{Num: 18, Den: 12}:                   6,
		{Num: 35, Den: 64}:                   1,
		{Num: math.MaxInt, Den: math.MaxInt}: math.MaxInt,
		{Num: math.MaxInt, Den: 49}:          49, // 2^63 - 1 = 7 7 73 127 337 92737 649657
	} {
		if n := number.CommonDivisor(f.Num, f.Den); n != want {
			t.Error(f, n)
		}
	}
}

func TestLowest(t *testing.T) {
	for given, want := range map[api.Frac]api.Frac{
		{Num: 0, Den: 1}:         {Num: 0, Den: 1},
		{Num: 0, Den: 60}:        {Num: 0, Den: 1},
		{Num: 7, Den: 1}:         {Num: 7, Den: 1},
		{Num: -7, Den: 1}:        {Num: -7, Den: 1},
		{Num: 12, Den: 18}:       {Num: 2, Den: 3},
		{Num: -12, Den: 18}:      {Num: -2, Den: 3},
		{Num: -18, Den: 12}:      {Num: -3, Den: 2},
		{Num: 35, Den: 64}:       {Num: 35, Den: 64},
		{Num: 1e18, Den: 1e18}:   {Num: 1, Den: 1},
		{Num: -1e18, Den: 1e6}:   {Num: -1e12, Den: 1},
		{Num: 1e12 - 1, Den: 27}: {Num: 37037037037, Den: 1},
	} {
		if f := number.Lowest(given.Num, given.Den); f != want {
			t.Error(given, f)
		}
	}
}
