package angle_test

import (
	"math"
	"math/rand"
	"testing"

	"dynpos/angle"
	"dynpos/api"
)

func TestNorm(t *testing.T) {
	for _, x := range [][2]int{{0, 0}, {3599, 3599}, {3600, 0}, {-1, 3599}, {-3600, 0}, {-3601, 3599}, {7205, 5}} {
		if got := angle.Norm(x[0]); got != x[1] {
			t.Errorf("Norm of %d: %d, not %d", x[0], got, x[1])
		}
	}
	for _, a := range []int{math.MinInt, math.MinInt + 1, math.MaxInt} {
		got := angle.Norm(a)
		if got < 0 || got >= api.Turn || (a/2-got/2)%(api.Turn/2) > 1 || angle.Norm(a/api.Turn*api.Turn) != 0 {
			t.Errorf("Norm of %d: %d", a, got)
		}
	}
}

func TestSines(t *testing.T) {
	for a, want := range map[int]int{0: 0, 300: 5000, 900: 10000, 1500: 5000, 1800: 0, 2100: -5000, 2700: -10000, 3300: -5000, 3600: 0, -900: -10000, 450: 7059, 1: 18} {
		if got := angle.Sin(a); got != want {
			t.Errorf("Sin of %d: %d, not %d", a, got, want)
		}
		if got := angle.Cos(a - 900); got != want {
			t.Errorf("Cos of %d: %d, not %d", a-900, got, want)
		}
	}
	for a := -4000; a < 4000; a++ {
		if angle.Sin(-a) != -angle.Sin(a) || angle.Sin(1800-a) != angle.Sin(a) || angle.Sin(a+api.Turn) != angle.Sin(a) || angle.Cos(-a) != angle.Cos(a) {
			t.Errorf("the sines of %d are not symmetric", a)
		}
		if d := angle.Sin(a)*angle.Sin(a) + angle.Cos(a)*angle.Cos(a) - api.Unit*api.Unit; d > 500000 || d < -500000 {
			t.Errorf("%d: the squares differ by %d", a, d)
		}
		if exact := 10000 * math.Sin(float64(a)*math.Pi/1800); math.Abs(exact-float64(angle.Sin(a))) > 20 {
			t.Errorf("Sin of %d: %d is not near %f", a, angle.Sin(a), exact)
		}
	}
	angle.Sin(math.MinInt)
	if angle.Cos(math.MaxInt) != angle.Cos(angle.Norm(math.MaxInt)) {
		t.Error("Cos of a great angle is not that of its Norm")
	}
}

// sine is S by its definition.
func sine(a int) int {
	if a > 1800 {
		return -sine(a - 1800)
	}
	p := a * (1800 - a)
	n, d := 40000*p, 4050000-p
	return (2*n + d) / (2 * d)
}

func TestSinesByTheirDefinition(t *testing.T) {
	for a := range api.Turn {
		if angle.Sin(a) != sine(a) || angle.Cos(a) != sine((a+900)%api.Turn) {
			t.Errorf("the sines of %d: %d and %d", a, angle.Sin(a), angle.Cos(a))
		}
	}
}

func TestWithinByItsDefinition(t *testing.T) {
	r := rand.New(rand.NewSource(31))
	for range 200000 {
		x := api.Arc{From: r.Intn(40) * 90}
		x.To = (x.From + r.Intn(20)*90) % api.Turn
		if r.Intn(2) == 0 {
			x = api.Arc{From: r.Intn(api.Turn)}
			x.To = (x.From + r.Intn(3)) % api.Turn
		}
		px, py := r.Intn(21)-10, r.Intn(21)-10
		if r.Intn(2) == 0 {
			a := x.From + r.Intn(3) - 1
			px, py = angle.Cos(a)+r.Intn(3)-1, angle.Sin(a)+r.Intn(3)-1
		}
		from, to := angle.Cross(x.From, px, py), angle.Cross(x.To, px, py)
		want := angle.Valid(x) && (px != 0 || py != 0) && from >= 0 && to <= 0 && (angle.Cos(x.From)*px+angle.Sin(x.From)*py > 0 || from > 0)
		if angle.Within(x, px, py) != want {
			t.Fatalf("%v, (%d, %d): %v", x, px, py, !want)
		}
	}
}

func TestDiff(t *testing.T) {
	for _, x := range [][3]int{{3590, 10, 20}, {10, 3590, -20}, {0, 1800, 1800}, {1800, 0, 1800}, {0, 1801, -1799}, {5, 5, 0}, {7205, -5, -10}} {
		if got := angle.Diff(x[0], x[1]); got != x[2] {
			t.Errorf("Diff of %v: %d", x, got)
		}
	}
	if got := angle.Diff(math.MinInt, math.MaxInt); got < -1799 || got > 1800 {
		t.Errorf("Diff of great angles: %d", got)
	}
}

func TestArcs(t *testing.T) {
	for _, x := range []struct {
		arc   api.Arc
		width int
		valid bool
	}{
		{api.Arc{From: 0, To: 0}, 0, true}, {api.Arc{From: 3590, To: 10}, 20, true}, {api.Arc{From: 0, To: 1799}, 1799, true}, {api.Arc{From: 0, To: 1800}, 1800, false},
		{api.Arc{From: 10, To: 9}, 3599, false}, {api.Arc{From: -1, To: 10}, 11, false}, {api.Arc{From: 3600, To: 10}, 10, false}, {api.Arc{From: 10, To: 3600}, 3590, false}, {api.Arc{From: 3500, To: 3600}, 100, false}, {api.Arc{From: 0, To: -1}, 3599, false},
	} {
		if angle.Width(x.arc) != x.width || angle.Valid(x.arc) != x.valid {
			t.Errorf("%v: width %d, valid %v", x.arc, angle.Width(x.arc), angle.Valid(x.arc))
		}
	}
	wild := api.Arc{From: math.MinInt, To: math.MaxInt}
	if angle.Width(wild) != angle.Norm(wild.To-wild.From) || angle.Valid(wild) || angle.In(wild, 0) || angle.Within(wild, 1, 1) {
		t.Error("an arc of great numbers")
	}
}

func TestIn(t *testing.T) {
	x := api.Arc{From: 3590, To: 10}
	for a, want := range map[int]bool{3589: false, 3590: true, 0: true, 10: true, 11: false, 3610: true, -10: true, 1800: false} {
		if angle.In(x, a) != want {
			t.Errorf("In of %d: %v", a, !want)
		}
	}
	if angle.In(api.Arc{From: 0, To: 1800}, 5) || angle.In(api.Arc{From: -5, To: 5}, 0) {
		t.Error("something is in an arc that is not valid")
	}
}

func TestCross(t *testing.T) {
	const m = api.MaxNumber
	for _, x := range [][4]int{{0, 1, 0, 0}, {0, 0, 1, 10000}, {0, 0, -1, -10000}, {900, 1, 0, -10000}, {300, 10, 20, 8649*20 - 5000*10}, {0, m, m, 10000 * m}, {0, 1, m + 1, 0}, {0, -m - 1, 1, 0}, {2700, m, -m, 10000 * m}} {
		if got := angle.Cross(x[0], x[1], x[2]); got != x[3] {
			t.Errorf("Cross of %v: %d", x, got)
		}
	}
}

func TestWithinAgreesWithIn(t *testing.T) {
	for _, x := range []api.Arc{{From: 0, To: 0}, {From: 3500, To: 200}, {From: 800, To: 1000}, {From: 100, To: 1899}, {From: 1800, To: 1800}, {From: 2700, To: 3599}, {From: 0, To: 1800}, {From: 450, To: 449}} {
		for a := range api.Turn {
			if angle.Within(x, angle.Cos(a), angle.Sin(a)) != angle.In(x, a) {
				t.Errorf("%v: %d is within: %v", x, a, angle.Within(x, angle.Cos(a), angle.Sin(a)))
			}
		}
	}
}

func TestWithin(t *testing.T) {
	const m = api.MaxNumber
	line := api.Arc{From: 900, To: 900}
	for _, x := range []struct {
		x, y int
		want bool
	}{{0, 0, false}, {0, 1, true}, {0, -1, false}, {1, 1, false}, {0, m, true}, {0, m + 1, false}, {0, -m, false}, {m + 1, 1, false}} {
		if angle.Within(line, x.x, x.y) != x.want {
			t.Errorf("(%d, %d) is within: %v", x.x, x.y, !x.want)
		}
	}
	wide := api.Arc{From: 0, To: 1799}
	if !angle.Within(wide, 1, 0) || !angle.Within(wide, -100, 1) || angle.Within(wide, -1, 0) || angle.Within(wide, 5, -1) {
		t.Error("the ends of a wide arc")
	}
}
