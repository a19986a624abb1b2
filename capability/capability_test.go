package capability_test

import (
	"fmt"
	"math"
	"testing"

	"dynpos/angle"
	"dynpos/api"
	"dynpos/capability"
)

func same(t *testing.T, name string, got, want any) {
	t.Helper()
	if g, w := fmt.Sprint(got), fmt.Sprint(want); g != w {
		t.Errorf("%s: %s, not %s", name, g, w)
	}
}

// one has one main thruster, four has azimuth thrusters at both stations too.
var (
	one  = api.Ship{Bow: 40, Stern: 60, Thrusters: []api.Thruster{{Kind: api.KindMain, Station: api.StationStern, Max: 100, Cost: 1}}}
	four = api.Ship{Bow: 50, Stern: 50, Thrusters: []api.Thruster{{Kind: api.KindAzimuth, Max: 100, Cost: 1}, {Kind: api.KindTunnel, Max: 80, Cost: 1}, {Kind: api.KindAzimuth, Station: api.StationStern, Max: 100, Cost: 1}, {Kind: api.KindMain, Station: api.StationStern, Max: 200, Cost: 1}}}
	able = []int{100, 80, 100, 200}
)

func TestDemand(t *testing.T) {
	for _, x := range []struct {
		s    api.Ship
		load api.Force
		want api.Demand
		e    api.Errno
	}{
		{one, api.Force{Surge: -100, Sway: -10, Yaw: -100}, api.Demand{Surge: 100, Bow: 7, Stern: 3}, api.OK}, {one, api.Force{Surge: 5000}, api.Demand{Surge: -5000}, api.OK}, {one, api.Force{Surge: 5001}, api.Demand{}, api.ErrRange}, {api.Ship{}, api.Force{Sway: 1000001}, api.Demand{}, api.ErrRange},
		{api.Ship{Bow: 1, Thrusters: make([]api.Thruster, 1)}, api.Force{}, api.Demand{}, api.ErrPlant}, {api.Ship{Bow: 1, Thrusters: make([]api.Thruster, 1)}, api.Force{Yaw: -1000001}, api.Demand{}, api.ErrRange}, {one, api.Force{Surge: math.MinInt}, api.Demand{}, api.ErrRange},
	} {
		d, e := capability.Demand(x.s, x.load)
		same(t, fmt.Sprint(x), []any{d, e}, []any{x.want, x.e})
		if x.e != api.OK {
			d, e := capability.Missing(x.s, nil, x.load)
			same(t, fmt.Sprint(x), []any{d, e, capability.Meets(x.s, nil, x.load)}, []any{api.Demand{}, x.e, false})
		}
	}
}

func TestMissing(t *testing.T) {
	for _, x := range []struct {
		able []int
		load api.Force
		want api.Demand
		e    api.Errno
	}{
		{[]int{100}, api.Force{Surge: -100}, api.Demand{}, api.OK}, {[]int{100}, api.Force{Surge: -101}, api.Demand{Surge: 1}, api.OK}, {[]int{100}, api.Force{Surge: 130}, api.Demand{Surge: -30}, api.OK}, {[]int{60}, api.Force{Surge: -100}, api.Demand{Surge: 40}, api.OK}, {[]int{100}, api.Force{Sway: -10}, api.Demand{Bow: 6, Stern: 4}, api.OK},
		{nil, api.Force{}, api.Demand{}, api.ErrShape}, {[]int{-1}, api.Force{}, api.Demand{}, api.ErrRange},
	} {
		d, e := capability.Missing(one, x.able, x.load)
		same(t, fmt.Sprint(x), []any{d, e, capability.Meets(one, x.able, x.load)}, []any{x.want, x.e, x.e == api.OK && x.want == api.Demand{}})
	}
}

func TestPart(t *testing.T) {
	load := api.Force{Surge: 150, Sway: -150, Yaw: 1000000}
	for percent, want := range map[int]api.Force{0: {}, 100: load, 10: {Surge: 15, Sway: -15, Yaw: 100000}, 1: {Surge: 2, Sway: -1, Yaw: 10000}, 200: {Surge: 300, Sway: -300, Yaw: 2000000}, 201: {}, -1: {}, math.MaxInt: {}} {
		same(t, fmt.Sprint(percent), capability.Part(load, percent), want)
	}
	same(t, "the greatest loads", capability.Part(api.Force{Surge: -1000000, Sway: 1000000, Yaw: -1000000}, 50), api.Force{Surge: -500000, Sway: 500000, Yaw: -500000})
	for _, wild := range []api.Force{{Surge: 1000001}, {Sway: -1000001}, {Yaw: math.MinInt}} {
		same(t, fmt.Sprint(wild), []any{capability.Part(wild, 10), capability.Reserve(one, []int{100}, wild)}, []any{api.Force{}, -1})
	}
}

func TestReserve(t *testing.T) {
	for _, x := range []struct {
		s    api.Ship
		able []int
		load api.Force
		want int
	}{
		{one, []int{100}, api.Force{Surge: -50}, 200}, {one, []int{100}, api.Force{Surge: -51}, 190}, {one, []int{100}, api.Force{Surge: -100}, 100}, {one, []int{100}, api.Force{Surge: 2000}, 0}, {one, []int{100}, api.Force{Sway: 100}, 0}, {one, []int{100}, api.Force{}, 200}, {one, []int{100}, api.Force{Yaw: 1000000}, 0},
		{one, nil, api.Force{}, -1}, {one, []int{5001}, api.Force{}, -1}, {api.Ship{}, nil, api.Force{}, -1}, {api.Ship{Bow: 1}, nil, api.Force{}, 200}, {api.Ship{Bow: 1}, nil, api.Force{Surge: 100}, 0}, {four, able, api.Force{Surge: -200, Sway: 100, Yaw: 1000}, 170},
	} {
		got := capability.Reserve(x.s, x.able, x.load)
		same(t, fmt.Sprint(x.able, x.load), got, x.want)
		if got >= 100 && !capability.Meets(x.s, x.able, x.load) {
			t.Errorf("%v: a reserve of %d, but the load is not met", x.load, got)
		}
	}
}

func TestReserveByItsDefinition(t *testing.T) {
	for surge := -300; surge <= 300; surge += 60 {
		for sway := -200; sway <= 200; sway += 50 {
			for yaw := -5000; yaw <= 5000; yaw += 2500 {
				load, want := api.Force{Surge: surge, Sway: sway, Yaw: yaw}, -1
				for q := 0; q <= 200 && capability.Meets(four, able, capability.Part(load, q)); q += 10 {
					want = q
				}
				same(t, fmt.Sprint(load), capability.Reserve(four, able, load), want)
			}
		}
	}
}

func TestPolar(t *testing.T) {
	got := capability.Polar(one, []int{100}, 100)
	want := []int{100, 0, 0, 0, 0, 0, 100, 0, 0, 0, 0, 0}
	same(t, "one main thruster", got, want)
	for i, r := range capability.Polar(four, able, 150) {
		surge := int(math.Floor(float64(-150*angle.Cos(300*i))/10000 + 0.5))
		sway := int(math.Floor(float64(-150*angle.Sin(300*i))/10000 + 0.5))
		same(t, fmt.Sprint(i), r, capability.Reserve(four, able, api.Force{Surge: surge, Sway: sway}))
	}
	same(t, "wrong able", capability.Polar(one, nil, 100), []int{-1, -1, -1, -1, -1, -1, -1, -1, -1, -1, -1, -1})
	for size, count := range map[int]int{0: 0, -1: 0, 5001: 0, math.MinInt: 0, 1: 12, 5000: 12} {
		same(t, fmt.Sprint(size), len(capability.Polar(one, []int{100}, size)), count)
	}
}

func TestWithout(t *testing.T) {
	a := []int{5, 6, 7}
	for _, x := range []struct{ thrusters, want []int }{{nil, []int{5, 6, 7}}, {[]int{1}, []int{5, 0, 7}}, {[]int{2, 0, 2}, []int{0, 6, 0}}, {[]int{-1, 3, math.MaxInt, math.MinInt}, []int{5, 6, 7}}} {
		same(t, fmt.Sprint(x.thrusters), capability.Without(a, x.thrusters), x.want)
	}
	same(t, "the argument", a, []int{5, 6, 7})
	same(t, "nobody", capability.Without(nil, []int{0}), []int{})
}
