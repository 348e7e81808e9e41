package number_test

import (
	"testing"

	"cassegrain/api"
	"cassegrain/number"
)

func TestLowest(t *testing.T) {
	for given, want := range map[api.Frac]api.Frac{
		{Num: 0, Den: 1}:         {Num: 0, Den: 1},
		{Num: 0, Den: 60}:        {Num: 0, Den: 1},
		{Num: 7, Den: 1}:         {Num: 7, Den: 1},
		{Num: -7, Den: 1}:        {Num: -7, Den: 1},
		{Num: 12, Den: 18}:       {Num: 2, Den: 3},
		{Num: -12, Den: 18}:      {Num: -2, Den: 3},
		{Num: -18, Den: 12}:      {Num: -3, Den: 2},
		{Num: 35, Den: 64}:       {Num: 35, Den: 64},
		{Num: 1e18, Den: 1e18}:   {Num: 1, Den: 1},
		{Num: -1e18, Den: 1e6}:   {Num: -1e12, Den: 1},
		{Num: 1e12 - 1, Den: 27}: {Num: 37037037037, Den: 1},
	} {
		if f := number.Lowest(given.Num, given.Den); f != want {
			t.Error(given, f)
		}
	}
}
