package ground

import "mortsafe/api"

// gcd returns the greatest common divisor of two numbers, of which b is above 0;
// a may be any number.
func gcd(a, b int) int {
	for a != 0 {
		a, b = b%a, a
	}
	return max(b, -b)
}

// lowest returns a fraction in lowest terms; den is above 0.
func lowest(num, den int) api.Frac {
	g := gcd(num, den)
	return api.Frac{Num: num / g, Den: den / g}
}
