package sample

import (
	"cassegrain/api"
	"cassegrain/check"
	"cassegrain/number"
)

// CheckFilter checks a filter.
func CheckFilter(f api.SampleFilter) api.Errno {
	const weight = api.MaxSampleWeight
	return check.First(
		check.Require(api.ErrShape, func() bool { return len(f.Coefficients) > 0 }),
		check.AtMost(api.MaxSampleTaps, f.Coefficients, check.Numbers(-weight, weight)),
		check.Range(f.Den, 1, weight),
	)
}

// filterCheck is the check of a filter.
func filterCheck(f api.SampleFilter) func() api.Errno {
	return func() api.Errno { return CheckFilter(f) }
}

// outputAt returns the output of a valid filter at an index of valid samples.
func outputAt(f api.SampleFilter, x []api.Gauss, index int) api.Gauss {
	var sum complex128
	for k, c := range f.Coefficients[:min(len(f.Coefficients), index+1)] {
		sum += complex(float64(c), 0) * complexOf(x[index-k])
	}
	whole := gaussOf(sum)
	return api.Gauss{Re: number.Floor(whole.Re, f.Den), Im: number.Floor(whole.Im, f.Den)}
}

// Filtered returns the outputs of a filter.
func Filtered(f api.SampleFilter, x []api.Gauss) ([]api.Gauss, api.Errno) {
	return Decimated(f, x, 1)
}

// Decimated returns the outputs of a filter whose indices are multiples of a number.
func Decimated(f api.SampleFilter, x []api.Gauss, by int) ([]api.Gauss, api.Errno) {
	e := check.First(filterCheck(f), samplesCheck(x), check.Range(by, 1, api.MaxSampleStream))
	if e != api.OK {
		return nil, e
	}
	var outputs []api.Gauss
	for n := 0; n < len(x); n += by {
		outputs = append(outputs, outputAt(f, x, n))
	}
	return outputs, api.OK
}

// Composed returns the filter whose coefficients are those of the product of both.
func Composed(f, g api.SampleFilter) (api.SampleFilter, api.Errno) {
	if e := check.First(filterCheck(f), filterCheck(g)); e != api.OK {
		return api.SampleFilter{}, e
	}
	product := api.SampleFilter{
		Coefficients: make([]int, len(f.Coefficients)+len(g.Coefficients)-1),
		Den:          f.Den * g.Den,
	}
	for k, c := range f.Coefficients {
		for j, d := range g.Coefficients {
			product.Coefficients[k+j] += c * d
		}
	}
	if CheckFilter(product) != api.OK {
		return api.SampleFilter{}, api.ErrLarge
	}
	return product, api.OK
}

// ResponseAt returns the response of a filter at a quarter frequency.
func ResponseAt(f api.SampleFilter, quarter int) (api.Gauss, api.Errno) {
	if e := check.First(filterCheck(f), quarterCheck(quarter)); e != api.OK {
		return api.Gauss{}, e
	}
	var x []api.Gauss // the response is the bin of the coefficients
	for _, c := range f.Coefficients {
		x = append(x, api.Gauss{Re: c})
	}
	return bin(x, quarter), api.OK
}
