package sector_test

import (
	"math"
	"math/rand"
	"testing"

	"dynpos/api"
	"dynpos/sector"
)

func azimuth(most int, arcs ...api.Arc) api.Thruster {
	return api.Thruster{Kind: api.KindAzimuth, Max: most, Rate: 10, Cost: 1, Forbidden: arcs}
}

var side = api.Arc{From: 800, To: 1000}

// wrong has thrusters that are not valid.
func wrong() []api.Thruster {
	var l []api.Thruster
	for _, change := range []func(t *api.Thruster){
		func(t *api.Thruster) { t.Kind = 0 }, func(t *api.Thruster) { t.Kind = 4 }, func(t *api.Thruster) { t.Station = -1 }, func(t *api.Thruster) { t.Station = 2 }, func(t *api.Thruster) { t.Max = -1 }, func(t *api.Thruster) { t.Max = 5001 },
		func(t *api.Thruster) { t.Rate = -1 }, func(t *api.Thruster) { t.Rate = 5001 }, func(t *api.Thruster) { t.Cost = 0 }, func(t *api.Thruster) { t.Cost = 101 }, func(t *api.Thruster) { t.Forbidden = make([]api.Arc, 5) }, func(t *api.Thruster) { t.Forbidden = []api.Arc{{From: 0, To: 1800}} },
	} {
		t := azimuth(100)
		change(&t)
		l = append(l, t)
	}
	return l
}

func TestValid(t *testing.T) {
	for _, x := range []api.Thruster{azimuth(0), azimuth(5000, side, side, side, side), {Kind: 1, Station: 1, Rate: 5000, Cost: 100}, {Kind: 2, Cost: 1}} {
		if !sector.Valid(x) || !sector.Allowed(x, 0, 0) {
			t.Errorf("%v is not valid", x)
		}
	}
	for _, x := range wrong() {
		if sector.Valid(x) || sector.Allowed(x, 0, 0) {
			t.Errorf("%v is valid", x)
		}
		if low, high := sector.Lateral(x); low != 0 || high != 0 {
			t.Errorf("Lateral of %v: %d, %d", x, low, high)
		}
		if low, high := sector.Longitudinal(x, 0); low != 0 || high != 0 {
			t.Errorf("Longitudinal of %v: %d, %d", x, low, high)
		}
	}
}

func TestAllowed(t *testing.T) {
	tunnel, main := azimuth(100), azimuth(100)
	tunnel.Kind, main.Kind = api.KindTunnel, api.KindMain
	for _, x := range []struct {
		t    api.Thruster
		x, y int
		want bool
	}{
		{azimuth(100), 60, 80, true}, {azimuth(100), 60, 81, false}, {azimuth(100), -100, 0, true}, {azimuth(100), 101, 0, false}, {azimuth(100, side), 0, 1, false}, {azimuth(100, side), 0, -1, true}, {azimuth(100, side), 0, 0, true}, {azimuth(100, side), 50, 50, true}, {azimuth(100, side), 10, 90, false},
		{tunnel, 0, 100, true}, {tunnel, 1, 0, false}, {main, -100, 0, true}, {main, 0, 1, false}, {azimuth(0), 0, 0, true}, {azimuth(0), 0, 1, false},
		{azimuth(100), math.MinInt, 0, false}, {azimuth(100), 0, math.MaxInt, false}, {azimuth(100), math.MaxInt, math.MinInt, false},
	} {
		if sector.Allowed(x.t, x.x, x.y) != x.want {
			t.Errorf("%v, (%d, %d): %v", x.t, x.x, x.y, !x.want)
		}
	}
}

func TestExample(t *testing.T) {
	x := azimuth(100, side)
	if low, high := sector.Lateral(x); low != -100 || high != 0 {
		t.Errorf("Lateral: %d, %d", low, high)
	}
	if low, high := sector.Longitudinal(x, -60); low != -80 || high != 80 {
		t.Errorf("Longitudinal: %d, %d", low, high)
	}
	for _, y := range []int{1, 101, -101, math.MinInt, math.MaxInt} {
		if low, high := sector.Longitudinal(x, y); low != 0 || high != 0 {
			t.Errorf("Longitudinal beside %d: %d, %d", y, low, high)
		}
	}
}

// run is the run around 0 by its definition.
func run(most int, holds func(n int) bool) (low, high int) {
	if !holds(0) {
		return 0, 0
	}
	for low > -most && holds(low-1) {
		low--
	}
	for high < most && holds(high+1) {
		high++
	}
	return low, high
}

func TestRunsByTheirDefinition(t *testing.T) {
	r := rand.New(rand.NewSource(5))
	for range 3000 {
		x := azimuth(r.Intn(60))
		x.Kind = 1 + r.Intn(5)
		if x.Kind > 3 {
			x.Kind = 3
		}
		for range r.Intn(api.MaxArcs + 1) {
			from := r.Intn(api.Turn)
			if r.Intn(3) == 0 {
				from = r.Intn(8) * 450
			}
			width := r.Intn(600)
			switch r.Intn(4) {
			case 0:
				width = 1799
			case 1:
				width = r.Intn(3)
			}
			x.Forbidden = append(x.Forbidden, api.Arc{From: from, To: (from + width) % api.Turn})
		}
		low, high := sector.Lateral(x)
		if l, h := run(x.Max, func(n int) bool { return sector.Allowed(x, 0, n) }); l != low || h != high {
			t.Fatalf("Lateral of %v: %d, %d, not %d, %d", x, low, high, l, h)
		}
		for range 10 {
			y := r.Intn(2*x.Max+1) - x.Max
			low, high := sector.Longitudinal(x, y)
			if l, h := run(x.Max, func(n int) bool { return sector.Allowed(x, n, y) }); l != low || h != high {
				t.Fatalf("Longitudinal of %v beside %d: %d, %d, not %d, %d", x, y, low, high, l, h)
			}
		}
	}
}

func TestRated(t *testing.T) {
	const m = api.MaxNumber
	for _, x := range []struct{ low, high, last, rate, l, h int }{
		{-100, 100, 0, 10, -10, 10}, {-100, 100, 95, 10, 85, 100}, {-100, 100, -95, 10, -100, -85}, {-100, 0, 50, 10, 0, 0}, {0, 100, -50, 10, 0, 0}, {-100, 0, 10, 10, 0, 0}, {-100, 100, 40, 0, 40, 40}, {-5, 5, 40, 0, 5, 5}, {3, 9, -40, 2, 3, 3},
		{-100, 100, 0, -1, -100, 100}, {100, -100, 0, 10, 100, -100}, {-100, 100, m + 1, 10, -100, 100}, {-100, 100, 0, m + 1, -100, 100}, {-m - 1, 100, 0, 1, -m - 1, 100}, {-100, m + 1, 0, 1, -100, m + 1}, {-m, m, m, m, 0, m}, {math.MinInt, math.MaxInt, math.MaxInt, math.MaxInt, math.MinInt, math.MaxInt},
	} {
		if l, h := sector.Rated(x.low, x.high, x.last, x.rate); l != x.l || h != x.h {
			t.Errorf("%v: %d, %d", x, l, h)
		}
	}
}
