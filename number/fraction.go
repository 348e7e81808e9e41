package number

import "cassegrain/api"

// Lowest returns num / den in lowest terms; den is above 0.
func Lowest(num, den int) api.Frac {
	divisor := commonDivisor(Size(num), den)
	return api.Frac{Num: num / divisor, Den: den / divisor}
}

// commonDivisor returns the greatest common divisor of two numbers from 0 on that are not both 0.
func commonDivisor(a, b int) int {
	for b != 0 {
		a, b = b, a%b
	}
	return a
}
