package number

import "cassegrain/api"

// Single returns a whole complex number in single precision, which is exact if its parts are at most 2^24 in size.
func Single(g api.Gauss) complex64 {
	return complex(float32(g.Re), float32(g.Im))
}

// Gauss returns a complex number whose parts are whole.
func Gauss(z complex64) api.Gauss {
	return api.Gauss{Re: int(real(z)), Im: int(imag(z))}
}

// Power returns the square of the size of a whole complex number.
func Power(g api.Gauss) int {
	return g.Re*g.Re + g.Im*g.Im
}
