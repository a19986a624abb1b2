package allocate_test

import (
	"fmt"
	"math"
	"math/rand"
	"slices"
	"testing"

	"dynpos/allocate"
	"dynpos/api"
	"dynpos/sector"
	"dynpos/share"
	"dynpos/thruster"
)

func same(t *testing.T, name string, got, want any) {
	t.Helper()
	if g, w := fmt.Sprint(got), fmt.Sprint(want); g != w {
		t.Errorf("%s: %s, not %s", name, g, w)
	}
}

// ship has a tunnel thruster at the bow, an azimuth one at the bow that must not push to starboard, and a main and an azimuth one at the stern.
func ship() api.Ship {
	return api.Ship{Bow: 40, Stern: 60, Thrusters: []api.Thruster{
		{Kind: api.KindTunnel, Station: api.StationBow, Max: 100, Rate: 10, Cost: 2},
		{Kind: api.KindAzimuth, Station: api.StationBow, Max: 100, Rate: 20, Cost: 1, Forbidden: []api.Arc{{From: 800, To: 1000}}},
		{Kind: api.KindMain, Station: api.StationStern, Max: 200, Rate: 5, Cost: 1},
		{Kind: api.KindAzimuth, Station: api.StationStern, Max: 100, Rate: 15, Cost: 3},
	}}
}

func whole() []int { return []int{100, 100, 200, 100} }

func TestStations(t *testing.T) {
	for _, x := range []struct {
		f    api.Force
		want api.Demand
		e    api.Errno
	}{
		{api.Force{Surge: -9, Sway: 10, Yaw: 100}, api.Demand{Surge: -9, Bow: 7, Stern: 3}, api.OK}, {api.Force{Yaw: 50}, api.Demand{Bow: 1, Stern: -1}, api.OK}, {api.Force{Yaw: -50}, api.Demand{}, api.OK},
		{api.Force{Surge: 5000, Sway: -5000, Yaw: 500000}, api.Demand{Surge: 5000, Bow: 2000, Stern: -7000}, api.OK},
		{api.Force{Surge: 5001}, api.Demand{}, api.ErrRange}, {api.Force{Sway: -5001}, api.Demand{}, api.ErrRange}, {api.Force{Yaw: 500001}, api.Demand{}, api.ErrRange}, {api.Force{Yaw: math.MinInt}, api.Demand{}, api.ErrRange},
	} {
		d, e := allocate.Stations(ship(), x.f)
		same(t, fmt.Sprint(x.f), []any{d, e}, []any{x.want, x.e})
	}
	short := api.Ship{Bow: 1}
	d, e := allocate.Stations(short, api.Force{Yaw: 500000})
	same(t, "a short ship", []any{d, e}, []any{api.Demand{Bow: 500000, Stern: -500000}, api.OK})
	d, e = allocate.Stations(short, api.Force{Sway: -1, Yaw: 500000})
	same(t, "too much at the stern", []any{d, e}, []any{api.Demand{}, api.ErrRange})
	d, e = allocate.Stations(api.Ship{Stern: 1}, api.Force{Sway: 1, Yaw: 500000})
	same(t, "too much at the bow", []any{d, e}, []any{api.Demand{}, api.ErrRange})
	d, e = allocate.Stations(api.Ship{}, api.Force{Surge: 5001})
	same(t, "a wrong ship", []any{d, e}, []any{api.Demand{}, api.ErrRange})
	d, e = allocate.Stations(api.Ship{Bow: 1, Thrusters: make([]api.Thruster, 1)}, api.Force{Surge: 5001})
	same(t, "a wrong thruster", []any{d, e}, []any{api.Demand{}, api.ErrPlant})
}

func TestLaterals(t *testing.T) {
	last := []api.Thrust{{Y: 95}, {Y: -3}, {X: 9}, {Y: -40}}
	for _, x := range []struct {
		max     []int
		last    []api.Thrust
		station int
		want    []api.Share
	}{
		{whole(), nil, api.StationBow, []api.Share{{Low: -100, High: 100, Cost: 2}, {Low: -100, High: 0, Cost: 1}, {Cost: 1}, {Cost: 3}}},
		{whole(), nil, api.StationStern, []api.Share{{Cost: 2}, {Cost: 1}, {Cost: 1}, {Low: -100, High: 100, Cost: 3}}},
		{whole(), last, api.StationBow, []api.Share{{Low: 85, High: 100, Cost: 2}, {Low: -23, High: 0, Cost: 1}, {Cost: 1}, {Cost: 3}}},
		{[]int{50, 5000, 0, 30}, last, api.StationStern, []api.Share{{Cost: 2}, {Cost: 1}, {Cost: 1}, {Low: -30, High: -25, Cost: 3}}},
		{[]int{50, 0, 0, 0}, last, api.StationBow, []api.Share{{Low: 50, High: 50, Cost: 2}, {Cost: 1}, {Cost: 1}, {Cost: 3}}},
	} {
		got, e := allocate.Laterals(ship(), x.max, x.last, x.station)
		same(t, fmt.Sprint(x), []any{got, e}, []any{x.want, api.OK})
	}
}

func TestSurges(t *testing.T) {
	last := []api.Thrust{{}, {X: 50}, {X: -9}, {X: 95}}
	got, e := allocate.Surges(ship(), whole(), nil, []int{30, -60, 0, 80})
	same(t, "without rates", []any{got, e}, []any{[]api.Share{{Cost: 2}, {Low: -80, High: 80, Cost: 1}, {Low: -200, High: 200, Cost: 1}, {Low: -60, High: 60, Cost: 3}}, api.OK})
	got, e = allocate.Surges(ship(), whole(), last, []int{30, -60, 0, 80})
	same(t, "with rates", []any{got, e}, []any{[]api.Share{{Cost: 2}, {Low: 30, High: 70, Cost: 1}, {Low: -14, High: -4, Cost: 1}, {Low: 60, High: 60, Cost: 3}}, api.OK})
	got, e = allocate.Surges(ship(), whole(), nil, []int{30, 10, 1, 101})
	same(t, "beside forces that are not allowed", []any{got, e}, []any{[]api.Share{{Cost: 2}, {Cost: 1}, {Cost: 1}, {Cost: 3}}, api.OK})
}

func TestErrors(t *testing.T) {
	four := make([]api.Thrust, 4)
	for _, x := range []struct {
		s    api.Ship
		max  []int
		last []api.Thrust
		want api.Errno
	}{
		{api.Ship{Bow: 201}, nil, four, api.ErrRange}, {api.Ship{Bow: 1, Thrusters: make([]api.Thruster, 9)}, nil, nil, api.ErrLimit}, {api.Ship{Bow: 1, Thrusters: make([]api.Thruster, 1)}, nil, nil, api.ErrPlant},
		{ship(), nil, nil, api.ErrShape}, {ship(), []int{1, 2, 3, 4, 5}, nil, api.ErrShape}, {ship(), whole(), make([]api.Thrust, 3), api.ErrShape}, {ship(), []int{-1, 0, 0}, nil, api.ErrShape},
		{ship(), []int{0, 0, 0, -1}, nil, api.ErrRange}, {ship(), []int{0, 0, 5001, 0}, nil, api.ErrRange}, {ship(), whole(), []api.Thrust{{}, {X: 5001}, {}, {}}, api.ErrRange}, {ship(), whole(), []api.Thrust{{}, {}, {}, {Y: -5001}}, api.ErrRange}, {ship(), whole(), []api.Thrust{{}, {}, {}, {Y: math.MinInt}}, api.ErrRange},
	} {
		l, e1 := allocate.Laterals(x.s, x.max, x.last, 7)
		m, e2 := allocate.Surges(x.s, x.max, x.last, make([]int, len(x.s.Thrusters)))
		a, e3 := allocate.Divide(x.s, x.max, x.last, api.Demand{Bow: math.MaxInt})
		same(t, fmt.Sprint(x), []any{l, e1, m, e2, a, e3}, []any{[]int{}, x.want, []int{}, x.want, api.Allocation{}, x.want})
		if allocate.Check(x.s, x.max, x.last, api.Demand{}, api.Allocation{Thrusts: make([]api.Thrust, len(x.s.Thrusters))}) || len(x.last) == 0 && allocate.Holds(x.s, x.max, api.Demand{}) {
			t.Errorf("%v: Check or Holds", x)
		}
	}
	for _, station := range []int{-1, 2} {
		_, e := allocate.Laterals(ship(), whole(), nil, station)
		same(t, "station", e, api.ErrRange)
	}
	for _, y := range [][]int{{1}, {0, 0, 0, 0, 0}} {
		_, e := allocate.Surges(ship(), whole(), nil, y)
		same(t, "y", e, api.ErrShape)
	}
	for _, y := range [][]int{{5001, 0, 0, 0}, {0, 0, 0, -5001}} {
		_, e := allocate.Surges(ship(), whole(), nil, y)
		same(t, "y", e, api.ErrRange)
	}
	for _, d := range []api.Demand{{Surge: 500001}, {Bow: -500001}, {Stern: 500001}} {
		a, e := allocate.Divide(ship(), whole(), nil, d)
		same(t, "demand", []any{a, e}, []any{api.Allocation{}, api.ErrRange})
		a, _ = allocate.Divide(ship(), whole(), nil, api.Demand{Surge: min(d.Surge, 500000), Bow: max(d.Bow, -500000), Stern: min(d.Stern, 500000)})
		a.Missing = api.Demand{Surge: d.Surge - a.Given.Surge, Bow: d.Bow - a.Given.Bow, Stern: d.Stern - a.Given.Stern}
		same(t, "Check of a demand out of range", allocate.Check(ship(), whole(), nil, d, a), false)
	}
}

func TestDivide(t *testing.T) {
	a, e := allocate.Divide(ship(), whole(), nil, api.Demand{Surge: 100, Bow: -30, Stern: 40})
	same(t, "without rates", []any{a, e}, []any{api.Allocation{Thrusts: []api.Thrust{{Y: -10}, {X: 43, Y: -20}, {X: 43}, {X: 14, Y: 40}}, Given: api.Demand{Surge: 100, Bow: -30, Stern: 40}}, api.OK})
	a, e = allocate.Divide(ship(), whole(), make([]api.Thrust, 4), api.Demand{Surge: 100, Bow: 50, Stern: 40})
	same(t, "with rates", []any{a, e}, []any{api.Allocation{Thrusts: []api.Thrust{{Y: 10}, {X: 20}, {X: 5}, {X: 15, Y: 15}}, Given: api.Demand{Surge: 40, Bow: 10, Stern: 15}, Missing: api.Demand{Surge: 60, Bow: 40, Stern: 25}}, api.OK})
	a, e = allocate.Divide(api.Ship{Bow: 1}, nil, nil, api.Demand{Surge: 5})
	same(t, "without thrusters", []any{a, e}, []any{api.Allocation{Missing: api.Demand{Surge: 5}}, api.OK})
}

func TestHolds(t *testing.T) {
	for _, x := range []struct {
		d    api.Demand
		want bool
	}{{api.Demand{}, true}, {api.Demand{Surge: 400}, true}, {api.Demand{Surge: 401}, false}, {api.Demand{Bow: 100}, true}, {api.Demand{Bow: 101}, false}, {api.Demand{Bow: -200}, true}, {api.Demand{Stern: 101}, false}, {api.Demand{Surge: 201, Stern: 100, Bow: -200}, false}, {api.Demand{Surge: 500001}, false}} {
		same(t, fmt.Sprint(x.d), allocate.Holds(ship(), whole(), x.d), x.want)
	}
}

// random returns a ship with its greatest forces.
func random(r *rand.Rand) (api.Ship, []int) {
	s := api.Ship{Bow: 1 + r.Intn(100), Stern: r.Intn(100)}
	var most []int
	for range r.Intn(6) {
		x := api.Thruster{Kind: 1 + r.Intn(3), Station: r.Intn(2), Max: r.Intn(200), Rate: r.Intn(60), Cost: 1 + r.Intn(9)}
		for range r.Intn(3) {
			from := r.Intn(api.Turn)
			x.Forbidden = append(x.Forbidden, api.Arc{From: from, To: (from + r.Intn(900)) % api.Turn})
		}
		s.Thrusters, most = append(s.Thrusters, x), append(most, r.Intn(250))
	}
	return s, most
}

func TestCheckHoldsForDivide(t *testing.T) {
	r := rand.New(rand.NewSource(7))
	for range 1500 {
		s, most := random(r)
		var last []api.Thrust
		for range 3 {
			d := api.Demand{Surge: r.Intn(601) - 300, Bow: r.Intn(401) - 200, Stern: r.Intn(401) - 200}
			a, e := allocate.Divide(s, most, last, d)
			if e != api.OK || !allocate.Check(s, most, last, d, a) {
				t.Fatalf("%v, %v, %v: %v, error %d", s, last, d, a, e)
			}
			for i, v := range a.Thrusts {
				if !sector.Allowed(thruster.With(s.Thrusters[i], most[i]), v.X, v.Y) {
					t.Fatalf("%v: thrust %d is not allowed: %v", s, i, v)
				}
			}
			if given, _ := thruster.Total(s, a.Thrusts); given != a.Given {
				t.Fatalf("given %v, not %v", given, a.Given)
			}
			wrongs(t, r, s, most, last, d, a)
			last = a.Thrusts
		}
	}
}

// wrongs checks that an allocation that was changed is only right if each stage still costs as little.
func wrongs(t *testing.T, r *rand.Rand, s api.Ship, most []int, last []api.Thrust, d api.Demand, a api.Allocation) {
	t.Helper()
	b := a
	b.Given.Bow++
	c := a
	c.Missing.Surge--
	if allocate.Check(s, most, last, d, b) || allocate.Check(s, most, last, d, c) || len(a.Thrusts) > 0 && allocate.Check(s, most, last, d, api.Allocation{Given: a.Given, Missing: a.Missing}) {
		t.Fatalf("%v: Check of wrong sums", a)
	}
	if len(a.Thrusts) < 2 {
		return
	}
	i, k := r.Intn(len(a.Thrusts)), r.Intn(len(a.Thrusts))
	b = a
	b.Thrusts = slices.Clone(a.Thrusts)
	b.Thrusts[i].X++
	b.Thrusts[k].X--
	y := make([]int, len(b.Thrusts))
	x := make([]int, len(b.Thrusts))
	for i, v := range b.Thrusts {
		x[i], y[i] = v.X, v.Y
	}
	l, _ := allocate.Surges(s, most, last, y)
	if allocate.Check(s, most, last, d, b) != share.Check(l, d.Surge, x) {
		t.Fatalf("%v: Check of %v", a, b)
	}
}
