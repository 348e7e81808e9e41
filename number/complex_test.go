package number_test

import (
	"testing"

	"cassegrain/api"
	"cassegrain/number"
)

func TestSingle(t *testing.T) {
	for _, g := range []api.Gauss{{}, {Re: 3, Im: -4}, {Re: -32000, Im: 32000}, {Re: 1 << 24, Im: 1 - 1<<24}} {
		if z := number.Single(g); float64(real(z)) != float64(g.Re) || float64(imag(z)) != float64(g.Im) {
			t.Error(g, z)
		}
		if again := number.Gauss(number.Single(g)); again != g {
			t.Error(g, again)
		}
	}
	if g := number.Gauss(number.Single(api.Gauss{Re: 2, Im: 1}) * number.Single(api.Gauss{Im: 1})); g != (api.Gauss{Re: -1, Im: 2}) {
		t.Error(g)
	}
}

func TestPower(t *testing.T) {
	for g, want := range map[api.Gauss]int{
		{}:                       0,
		{Re: 3, Im: -4}:          25,
		{Re: -3}:                 9,
		{Im: 5}:                  25,
		{Re: -32000, Im: -31999}: 2047936001,
	} {
		if n := number.Power(g); n != want {
			t.Error(g, n)
		}
	}
}
