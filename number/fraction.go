package number

import "cassegrain/api"

// IsLowest says whether a fraction is in lowest terms with Den above 0.
func IsLowest(f api.Frac) bool {
	return f.Den > 0 && CommonDivisor(f.Den, Size(f.Num%f.Den)) == 1
}

// Lowest returns num / den in lowest terms; den is above 0.
func Lowest(num, den int) api.Frac {
	divisor := CommonDivisor(Size(num), den)
	return api.Frac{Num: num / divisor, Den: den / divisor}
}

// CommonDivisor returns the greatest common divisor of two numbers from 0 on that are not both 0.
func CommonDivisor(a, b int) int {
	for b != 0 {
		a, b = b, a%b
	}
	return a
}
