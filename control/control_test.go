package control_test

import (
	"fmt"
	"math"
	"math/rand"
	"testing"

	"dynpos/api"
	"dynpos/control"
)

func same(t *testing.T, name string, got, want any) {
	t.Helper()
	if g, w := fmt.Sprint(got), fmt.Sprint(want); g != w {
		t.Errorf("%s: %s, not %s", name, g, w)
	}
}

var gains = api.Gains{Near: 2000, Sum: 100, Calm: 5000, Point: 3000, Drift: 200, Still: 7000, MostSum: 500, MostForce: 1000, MostYaw: 2000}

func TestCheck(t *testing.T) {
	edge := api.Gains{Near: 100000, Sum: 100000, Calm: 100000, Point: 100000, Drift: 100000, Still: 100000, MostSum: 10000000, MostForce: 5000, MostYaw: 500000}
	same(t, "valid", []api.Errno{control.Check(gains), control.Check(edge), control.Check(api.Gains{})}, []api.Errno{0, 0, 0})
	numbers := func(g *api.Gains) []*int {
		return []*int{&g.Near, &g.Sum, &g.Calm, &g.Point, &g.Drift, &g.Still, &g.MostSum, &g.MostForce, &g.MostYaw}
	}
	for i := range 9 {
		low, high := gains, edge
		*numbers(&low)[i] = -1
		*numbers(&high)[i]++
		for _, g := range []api.Gains{low, high} {
			same(t, fmt.Sprint(i), []any{control.Check(g), control.Valid(g, api.Keeper{})}, []any{api.ErrGains, false})
			f, k, e := control.Demand(g, api.Keeper{SumX: math.MaxInt}, api.Point{}, -1, api.Target{})
			same(t, fmt.Sprint(i), []any{f, k, e}, []any{api.Force{}, api.Keeper{}, api.ErrGains})
		}
	}
}

func TestValid(t *testing.T) {
	for _, k := range []api.Keeper{{}, {SumX: 500, SumY: -500, SumH: 500, Last: api.Point{X: 100000000, Y: -100000000}, Heading: 3599}} {
		same(t, fmt.Sprint(k), control.Valid(gains, k), true)
	}
	for _, k := range []api.Keeper{{SumX: 501}, {SumX: -501}, {SumY: 501}, {SumY: math.MinInt}, {SumH: 501}, {SumH: -501}, {Last: api.Point{X: 100000001}}, {Last: api.Point{Y: -100000001}}, {Heading: -1}, {Heading: 3600}} {
		same(t, fmt.Sprint(k), control.Valid(gains, k), false)
		f, after, e := control.Demand(gains, k, api.Point{}, 0, api.Target{})
		same(t, fmt.Sprint(k), []any{f, after, e}, []any{api.Force{}, api.Keeper{}, api.ErrRange})
	}
}

func TestSigned(t *testing.T) {
	for a, want := range map[int]int{0: 0, 3590: -10, 1799: 1799, 1800: -1800, 1801: -1799, -1800: -1800, -1801: 1799, 7205: 5, -3600: 0} {
		same(t, fmt.Sprint(a), control.Signed(a), want)
	}
	if n := control.Signed(math.MinInt); n < -1800 || n > 1799 {
		t.Errorf("Signed of the least number: %d", n)
	}
}

func TestBody(t *testing.T) {
	const m = api.MaxPosition
	for _, x := range []struct{ px, py, tx, ty, heading, ahead, right int }{
		{0, 0, 1000, 0, 0, 1000, 0}, {0, 0, 1000, 0, 900, 0, -1000}, {5, 6, 5, 106, 900, 100, 0}, {0, 0, 100, 100, 300, 136, 36}, {0, 0, 1, 0, 300, 1, 0}, {0, 0, -1, 0, 300, -1, 1}, {-m, m, m, -m, 0, 2 * m, -2 * m},
		{m + 1, 0, 0, 0, 0, 0, 0}, {0, -m - 1, 0, 0, 0, 0, 0}, {0, 0, math.MaxInt, 0, 0, 0, 0}, {0, 0, 5, math.MinInt, 0, 0, 0}, {0, 0, 5, 5, -1, 0, 0}, {0, 0, 5, 5, 3600, 0, 0},
	} {
		ahead, right := control.Body(api.Point{X: x.px, Y: x.py}, api.Point{X: x.tx, Y: x.ty}, x.heading)
		same(t, fmt.Sprint(x), []int{ahead, right}, []int{x.ahead, x.right})
	}
}

func TestDemand(t *testing.T) {
	for _, x := range []struct {
		name    string
		k       api.Keeper
		place   api.Point
		heading int
		target  api.Target
		f       api.Force
		after   api.Keeper
	}{
		{"at the target", api.Keeper{}, api.Point{X: 5}, 7, api.Target{Place: api.Point{X: 5}, Heading: 7}, api.Force{}, api.Keeper{Last: api.Point{X: 5}, Heading: 7, Seen: true}},
		{"first", api.Keeper{Last: api.Point{X: 9999}, Heading: 99}, api.Point{}, 0, api.Target{Place: api.Point{X: 100, Y: -50}, Heading: 10}, api.Force{Surge: 210, Sway: -105, Yaw: 32}, api.Keeper{SumX: 100, SumY: -50, SumH: 10, Seen: true}},
		{"moving", api.Keeper{SumX: 450, SumY: -480, SumH: 20, Last: api.Point{X: -10, Y: 4}, Heading: 3598, Seen: true}, api.Point{}, 0, api.Target{Place: api.Point{X: 100, Y: -50}, Heading: 3590}, api.Force{Surge: 200 + 50 - 50, Sway: -100 - 50 + 20, Yaw: -30 + 2 - 14}, api.Keeper{SumX: 500, SumY: -500, SumH: 10, Seen: true}},
		{"cut", api.Keeper{}, api.Point{}, 0, api.Target{Place: api.Point{X: 5000, Y: -5000}, Heading: 1800}, api.Force{Surge: 1000, Sway: -1000, Yaw: -2000}, api.Keeper{SumX: 500, SumY: -500, SumH: -500, Seen: true}},
		{"pointing east", api.Keeper{Last: api.Point{X: 10}, Heading: 900, Seen: true}, api.Point{}, 900, api.Target{Place: api.Point{X: 100}, Heading: 900}, api.Force{Sway: -200 - 10 - 50}, api.Keeper{SumY: -100, Heading: 900, Seen: true}},
	} {
		f, after, e := control.Demand(gains, x.k, x.place, x.heading, x.target)
		same(t, x.name, []any{f, after, e}, []any{x.f, x.after, api.OK})
	}
	small := api.Gains{Near: 500, Point: 500, MostForce: 9, MostYaw: 9}
	f, _, _ := control.Demand(small, api.Keeper{}, api.Point{}, 0, api.Target{Place: api.Point{X: 1, Y: -1}, Heading: 3597})
	same(t, "halves are rounded up", f, api.Force{Surge: 1, Yaw: -1})
}

func TestDemandErrors(t *testing.T) {
	far := api.Point{X: 100000001}
	for i, x := range []struct {
		place   api.Point
		heading int
		target  api.Target
	}{{far, 0, api.Target{}}, {api.Point{Y: math.MinInt}, 0, api.Target{}}, {api.Point{}, 0, api.Target{Place: far}}, {api.Point{}, -1, api.Target{}}, {api.Point{}, 3600, api.Target{}}, {api.Point{}, 0, api.Target{Heading: -1}}, {api.Point{}, 0, api.Target{Heading: 3600}}} {
		f, k, e := control.Demand(gains, api.Keeper{}, x.place, x.heading, x.target)
		same(t, fmt.Sprint(i), []any{f, k, e}, []any{api.Force{}, api.Keeper{}, api.ErrRange})
	}
}

func TestNothingGrowsWithoutEnd(t *testing.T) {
	r := rand.New(rand.NewSource(15))
	wild := api.Gains{Near: 100000, Sum: 100000, Calm: 100000, Point: 100000, Drift: 100000, Still: 100000, MostSum: 10000000, MostForce: 5000, MostYaw: 500000}
	k := api.Keeper{}
	for range 2000 {
		place := func() api.Point { return api.Point{X: r.Intn(200000001) - 100000000, Y: r.Intn(200000001) - 100000000} }
		f, next, e := control.Demand(wild, k, place(), r.Intn(3600), api.Target{Place: place(), Heading: r.Intn(3600)})
		if e != api.OK || !control.Valid(wild, next) || max(f.Surge, -f.Surge, f.Sway, -f.Sway) > 5000 || max(f.Yaw, -f.Yaw) > 500000 {
			t.Fatalf("%v, %v, error %d", f, next, e)
		}
		k = next
	}
}
