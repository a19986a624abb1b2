package arith_test

import (
	"math"
	"testing"

	"dynpos/api"
	"dynpos/arith"
)

// most is the greatest number that is divided.
const most = api.MaxNumber * api.MaxNumber

var numbers = []int{math.MinInt, math.MinInt + 1, -most - 1, -most, -api.MaxNumber - 1, -api.MaxNumber, -3600, -7, -2, -1, 0, 1, 2, 3, 7, 3600, api.MaxNumber, api.MaxNumber + 1, most, most + 1, math.MaxInt - 1, math.MaxInt}

func TestClamp(t *testing.T) {
	for _, x := range [][4]int{{5, 0, 3, 3}, {-5, 0, 3, 0}, {2, 0, 3, 2}, {2, 5, 3, 5}, {9, 5, 3, 5}, {math.MinInt, math.MinInt, math.MaxInt, math.MinInt}, {math.MaxInt, 1, 2, 2}} {
		if got := arith.Clamp(x[0], x[1], x[2]); got != x[3] {
			t.Errorf("Clamp of %v: %d", x, got)
		}
	}
}

func TestNear(t *testing.T) {
	const m = api.MaxNumber
	for _, x := range [][4]int{{10, 20, 4, 14}, {10, 0, 4, 6}, {10, 12, 4, 12}, {10, 20, 1, 11}, {10, 14, 4, 14}, {10, 20, 0, 10}, {10, 20, -1, 10}, {10, m + 1, 4, 10}, {10, -m - 1, 4, 10}, {10, 20, m + 1, 10}, {m + 1, 0, 4, m + 1}, {-m - 1, 0, 4, -m - 1}, {m, -m, m, 0}, {-m, m, m, 0}, {0, m, m, m}, {math.MinInt, 0, 1, math.MinInt}} {
		if got := arith.Near(x[0], x[1], x[2]); got != x[3] {
			t.Errorf("Near of %v: %d", x, got)
		}
	}
}

func TestDivisionsOfSmallNumbers(t *testing.T) {
	for n := -60; n <= 60; n++ {
		for d := 1; d <= 13; d++ {
			exact := float64(n) / float64(d)
			down, e1 := arith.Floor(n, d)
			up, e2 := arith.Up(n, d)
			half, e3 := arith.Half(n, d)
			mod, e4 := arith.Mod(n, d)
			if e1 != api.OK || e2 != api.OK || e3 != api.OK || e4 != api.OK {
				t.Fatalf("%d / %d: %d %d %d %d", n, d, e1, e2, e3, e4)
			}
			if down != int(math.Floor(exact)) || up != int(math.Ceil(exact)) || half != int(math.Floor(exact+0.5)) || mod != n-d*down {
				t.Errorf("%d / %d: %d %d %d %d", n, d, down, up, half, mod)
			}
		}
	}
}

func TestDivisionsAtTheLimits(t *testing.T) {
	for name, f := range map[string]func(n, d int) (int, api.Errno){"Floor": arith.Floor, "Up": arith.Up, "Half": arith.Half, "Mod": arith.Mod} {
		for _, n := range numbers {
			for _, d := range numbers {
				right := n >= -most && n <= most && d >= 1 && d <= api.MaxNumber
				got, e := f(n, d)
				if right != (e == api.OK) || !right && (e != api.ErrRange || got != 0) {
					t.Errorf("%s of %d and %d: %d, error %d", name, n, d, got, e)
				}
			}
		}
	}
	if got, _ := arith.Half(most, api.MaxNumber); got != api.MaxNumber {
		t.Errorf("Half at the limit: %d", got)
	}
	if got, _ := arith.Half(-most, 1); got != -most {
		t.Errorf("Half at the other limit: %d", got)
	}
}

func TestHalfIsFloorOfTwice(t *testing.T) {
	for _, n := range []int{-api.MaxNumber, -12345, -3, 0, 3, 98765, api.MaxNumber} {
		for _, d := range []int{1, 2, 3, 1000, api.MaxNumber / 2} {
			half, _ := arith.Half(n, d)
			floor, _ := arith.Floor(2*n+d, 2*d)
			up, _ := arith.Up(n, d)
			down, _ := arith.Floor(-n, d)
			if half != floor || up != -down {
				t.Errorf("%d / %d: %d and %d, %d and %d", n, d, half, floor, up, -down)
			}
		}
	}
}

func TestRoot(t *testing.T) {
	check := func(n int) {
		r, e := arith.Root(n)
		if e != api.OK || r < 0 || r*r > n || (r+1)*(r+1) <= n {
			t.Errorf("Root of %d: %d, error %d", n, r, e)
		}
	}
	for n := range 2000 {
		check(n)
	}
	for _, r := range []int{1000, 99999, 31622777, api.MaxNumber} {
		check(r * r)
		check(r*r - 1)
	}
	for _, n := range []int{-1, most + 1, math.MinInt, math.MaxInt} {
		if r, e := arith.Root(n); r != 0 || e != api.ErrRange {
			t.Errorf("Root of %d: %d, error %d", n, r, e)
		}
	}
}
