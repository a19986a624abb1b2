package thruster_test

import (
	"math"
	"testing"

	"dynpos/api"
	"dynpos/thruster"
)

func azimuth(most, cost int) api.Thruster {
	return api.Thruster{Kind: api.KindAzimuth, Max: most, Cost: cost}
}

func ship(l ...api.Thruster) api.Ship { return api.Ship{Bow: 40, Stern: 60, Thrusters: l} }

func TestCheck(t *testing.T) {
	for _, x := range []struct {
		s    api.Ship
		want api.Errno
	}{
		{ship(), api.OK}, {ship(azimuth(1, 1)), api.OK}, {ship(azimuth(1, 1), azimuth(1, 1), azimuth(1, 1), azimuth(1, 1), azimuth(1, 1), azimuth(1, 1), azimuth(1, 1), azimuth(1, 1)), api.OK}, {api.Ship{Bow: 200}, api.OK}, {api.Ship{Stern: 200}, api.OK}, {ship(make([]api.Thruster, 9)...), api.ErrLimit}, {api.Ship{Bow: -1, Thrusters: make([]api.Thruster, 9)}, api.ErrLimit},
		{api.Ship{}, api.ErrRange}, {api.Ship{Bow: 201}, api.ErrRange}, {api.Ship{Bow: 1, Stern: 201}, api.ErrRange}, {api.Ship{Bow: 1, Stern: -1}, api.ErrRange}, {api.Ship{Thrusters: make([]api.Thruster, 1)}, api.ErrRange}, {ship(azimuth(1, 1), azimuth(1, 0)), api.ErrPlant},
	} {
		if e := thruster.Check(x.s); e != x.want {
			t.Errorf("%v: error %d", x.s, e)
		}
		if x.want == api.OK {
			continue
		}
		d, e1 := thruster.Total(x.s, nil)
		f, e2 := thruster.Moment(x.s, nil)
		if d != (api.Demand{}) || f != (api.Force{}) || e1 != x.want || e2 != x.want {
			t.Errorf("%v: errors %d and %d", x.s, e1, e2)
		}
	}
}

func TestPower(t *testing.T) {
	for _, x := range []struct {
		cost, x, y, want int
		e                api.Errno
	}{
		{3, 100, 0, 30, api.OK}, {3, 10, 0, 1, api.OK}, {3, 0, 0, 0, api.OK}, {3, 60, -80, 30, api.OK}, {100, 5000, 5000, 5000000, api.OK}, {1, -1, 0, 1, api.OK}, {1, 10, 30, 1, api.OK}, {1, 10, 31, 2, api.OK},
		{0, 1, 1, 0, api.ErrRange}, {1, 5001, 0, 0, api.ErrRange}, {1, 0, -5001, 0, api.ErrRange}, {1, math.MinInt, 0, 0, api.ErrRange}, {1, 0, math.MaxInt, 0, api.ErrRange},
	} {
		if got, e := thruster.Power(azimuth(100, x.cost), api.Thrust{X: x.x, Y: x.y}); got != x.want || e != x.e {
			t.Errorf("%v: %d, error %d", x, got, e)
		}
	}
}

func TestMost(t *testing.T) {
	for _, x := range [][4]int{{500, 3, 30, 100}, {500, 3, 29, 98}, {500, 3, 0, 0}, {500, 3, -1, 0}, {50, 3, 30, 50}, {5000, 100, math.MaxInt, 5000}, {500, 3, math.MinInt, 0}, {500, 0, 30, 0}, {-1, 3, 30, 0}, {5000, 1, 24999, 4999}, {0, 1, 5, 0}, {5, 1, 1, 5}, {5, 1, 0, 0}} {
		if got := thruster.Most(azimuth(x[0], x[1]), x[2]); got != x[3] {
			t.Errorf("%v: %d", x, got)
		}
	}
	for power := -2; power < 300; power++ {
		for cost := 1; cost < 20; cost++ {
			x := azimuth(200, cost)
			f := thruster.Most(x, power)
			now, _ := thruster.Power(x, api.Thrust{X: f})
			more, _ := thruster.Power(x, api.Thrust{X: f + 1})
			if power >= 0 && now > power || f < x.Max && power >= 0 && more <= power || power < 0 && f != 0 {
				t.Errorf("cost %d, power %d: %d", cost, power, f)
			}
		}
	}
}

func TestWith(t *testing.T) {
	x := azimuth(100, 1)
	x.Forbidden = []api.Arc{{From: 1, To: 2}}
	for max, want := range map[int]int{50: 50, 100: 100, 200: 100, 0: 0, -1: 0, math.MinInt: 0, math.MaxInt: 100} {
		got := thruster.With(x, max)
		if got.Max != want || got.Kind != x.Kind || got.Cost != 1 || len(got.Forbidden) != 1 || got.Forbidden[0] != x.Forbidden[0] {
			t.Errorf("With %d: %v", max, got)
		}
	}
	if got := thruster.With(azimuth(-5, 1), 0); got.Max != -5 {
		t.Errorf("With of a thruster that is not valid: %v", got)
	}
}

func TestTotalAndMoment(t *testing.T) {
	stern := azimuth(100, 1)
	stern.Station = api.StationStern
	s := ship(azimuth(100, 1), stern, azimuth(100, 1))
	l := []api.Thrust{{X: 1, Y: 10}, {X: 2, Y: -30}, {X: -4, Y: 5}}
	if d, e := thruster.Total(s, l); d != (api.Demand{Surge: -1, Bow: 15, Stern: -30}) || e != api.OK {
		t.Errorf("Total: %v, error %d", d, e)
	}
	if f, e := thruster.Moment(s, l); f != (api.Force{Surge: -1, Sway: -15, Yaw: 15*40 + 30*60}) || e != api.OK {
		t.Errorf("Moment: %v, error %d", f, e)
	}
	for _, x := range []struct {
		l    []api.Thrust
		want api.Errno
	}{{nil, api.ErrShape}, {make([]api.Thrust, 4), api.ErrShape}, {[]api.Thrust{{}, {X: 5001}, {}}, api.ErrRange}, {[]api.Thrust{{}, {}, {Y: -5001}}, api.ErrRange}, {[]api.Thrust{{X: 5000, Y: -5000}, {}, {}}, api.OK}, {[]api.Thrust{{X: math.MinInt}, {}, {}}, api.ErrRange}} {
		d, e1 := thruster.Total(s, x.l)
		f, e2 := thruster.Moment(s, x.l)
		if e1 != x.want || e2 != x.want || e1 != api.OK && (d != (api.Demand{}) || f != (api.Force{})) {
			t.Errorf("%v: errors %d and %d", x.l, e1, e2)
		}
	}
}
