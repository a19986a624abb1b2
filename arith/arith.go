// Package arith rounds, and takes roots, of whole numbers.
package arith

import "dynpos/api"

// most is the greatest number that is divided, or of which a root is taken.
const most = api.MaxNumber * api.MaxNumber

// divided makes a rounded division of a rule that looks at the quotient rounded down, what is left, and the divisor.
func divided(rule func(quotient, rest, d int) int) func(n, d int) (int, api.Errno) {
	return func(n, d int) (int, api.Errno) {
		if n < -most || n > most || d < 1 || d > api.MaxNumber {
			return 0, api.ErrRange
		}
		quotient, rest := n/d, n%d
		if rest < 0 {
			quotient, rest = quotient-1, rest+d
		}
		return rule(quotient, rest, d), api.OK
	}
}

// Clamp returns x, but at least low, and at most high; low, if low is greater than high.
func Clamp(x, low, high int) int {
	return max(low, min(x, high))
}

// Floor returns n / d rounded down.
func Floor(n, d int) (int, api.Errno) {
	return divided(func(quotient, _, _ int) int { return quotient })(n, d)
}

// Half returns n / d rounded to the nearest integer, and up if two are as near.
func Half(n, d int) (int, api.Errno) {
	return divided(func(quotient, rest, d int) int {
		if 2*rest >= d {
			return quotient + 1
		}
		return quotient
	})(n, d)
}

// Up returns n / d rounded up.
func Up(n, d int) (int, api.Errno) {
	return divided(func(quotient, rest, _ int) int {
		if rest > 0 {
			return quotient + 1
		}
		return quotient
	})(n, d)
}

// Mod returns n minus d times Floor of both.
func Mod(n, d int) (int, api.Errno) {
	return divided(func(_, rest, _ int) int { return rest })(n, d)
}

// Root returns the greatest integer whose square is at most n.
func Root(n int) (int, api.Errno) {
	if n < 0 || n > most {
		return 0, api.ErrRange
	}
	low, above := 0, api.MaxNumber+1
	for above-low > 1 {
		middle := (low + above) / 2
		if middle*middle <= n {
			low = middle
		} else {
			above = middle
		}
	}
	return low, api.OK
}

// Near returns the number nearest to target that is at most step away from x; x for a step that is not greater than 0 or numbers out of range.
func Near(x, target, step int) int {
	if step <= 0 || !within(x) || !within(target) || !within(step) {
		return x
	}
	return Clamp(target, x-step, x+step)
}

// within reports whether n can be multiplied.
func within(n int) bool {
	return n >= -api.MaxNumber && n <= api.MaxNumber
}
