package circle_test

import (
	"fmt"
	"math"
	"math/rand"
	"testing"

	"dynpos/api"
	"dynpos/circle"
)

func same(t *testing.T, name string, got, want any) {
	t.Helper()
	if g, w := fmt.Sprint(got), fmt.Sprint(want); g != w {
		t.Errorf("%s: %s, not %s", name, g, w)
	}
}

const m = api.MaxPosition

var watch = api.Circle{Yellow: 500, Red: 1000}

func at(x, y, bound int) api.Estimate {
	return api.Estimate{Point: api.Point{X: x, Y: y}, Bound: bound, State: api.EstimateGood}
}

// wrongCircles and wrongEstimates are those that are not valid or usable.
var (
	wrongCircles   = []api.Circle{{Place: api.Point{X: m + 1}}, {Place: api.Point{Y: math.MinInt}}, {Yellow: -1, Red: 5}, {Yellow: 6, Red: 5}, {Red: 1000001}, {Yellow: math.MinInt, Red: math.MaxInt}}
	wrongEstimates = []api.Estimate{{}, {Point: api.Point{X: 5}, Bound: 5}, at(m+1, 0, 0), at(0, math.MinInt, 0), at(0, 0, -1), at(0, 0, 2*m+1), at(0, 0, math.MaxInt)}
)

func TestCheck(t *testing.T) {
	for _, c := range []api.Circle{watch, {}, {Place: api.Point{X: m, Y: -m}, Yellow: 1000000, Red: 1000000}} {
		same(t, fmt.Sprint(c), circle.Check(c), api.OK)
	}
	for _, c := range wrongCircles {
		same(t, fmt.Sprint(c), []any{circle.Check(c), circle.Far(c, at(0, 0, 0)), circle.Close(c, at(0, 0, 0)), circle.Worst(c, at(0, 0, 0)), circle.Best(c, at(0, 0, 0)), circle.Left(c, at(0, 0, 0), 1)}, []any{api.ErrCircle, -1, -1, api.ZoneRed, api.ZoneRed, -1})
	}
	for _, e := range wrongEstimates {
		same(t, fmt.Sprint(e), []any{circle.Far(watch, e), circle.Close(watch, e), circle.Worst(watch, e), circle.Best(watch, e), circle.Left(watch, e, 1)}, []any{-1, -1, api.ZoneRed, api.ZoneRed, -1})
	}
}

func TestZones(t *testing.T) {
	for _, x := range []struct {
		e                       api.Estimate
		far, close, worst, best int
	}{
		{at(300, 400, 0), 250000, 250000, 1, 1}, {at(300, 400, 100), 400*400 + 500*500, 200*200 + 300*300, 2, 1}, {at(-300, -401, 0), 90000 + 401*401, 90000 + 401*401, 2, 2}, {at(600, -800, 0), 1000000, 1000000, 2, 2}, {at(601, 800, 0), 601*601 + 640000, 601*601 + 640000, 3, 3},
		{at(600, 800, 1), 601*601 + 801*801, 599*599 + 799*799, 3, 2}, {at(50, -2000, 60), 110*110 + 2060*2060, 1940 * 1940, 3, 3}, {at(0, 0, 500), 500000, 0, 2, 1}, {at(m, -m, 2*m), 18 * m * m, 0, 3, 1},
	} {
		same(t, fmt.Sprint(x.e), []int{circle.Far(watch, x.e), circle.Close(watch, x.e), circle.Worst(watch, x.e), circle.Best(watch, x.e)}, []int{x.far, x.close, x.worst, x.best})
	}
	lost := at(300, 400, 0)
	lost.State = api.EstimateLost
	same(t, "lost", circle.Worst(watch, lost), api.ZoneInside)
	moved := api.Circle{Place: api.Point{X: 1000, Y: -1000}, Yellow: 500, Red: 1000}
	same(t, "another place", []int{circle.Worst(moved, at(1300, -1400, 0)), circle.Best(moved, at(0, 0, 0))}, []int{api.ZoneInside, api.ZoneRed})
	far := api.Circle{Place: api.Point{X: -m, Y: m}}
	same(t, "the greatest distance", circle.Far(far, at(m, -m, 2*m)), 32*m*m)
	same(t, "a circle of nothing", []int{circle.Worst(api.Circle{}, at(0, 0, 0)), circle.Worst(api.Circle{}, at(1, 0, 0))}, []int{api.ZoneInside, api.ZoneRed})
}

func TestLeft(t *testing.T) {
	for _, x := range []struct {
		e           api.Estimate
		speed, want int
	}{{at(300, 400, 100), 50, 5}, {at(300, 400, 0), 1000, 0}, {at(0, 0, 0), 1, 400}, {at(0, 0, 0), 2, 353}, {at(0, 0, 307), 1, 400}, {at(0, 0, 308), 1, 399}, {at(0, 0, 707), 1, 0}, {at(0, 0, 708), 1, -1}, {at(0, 0, 0), 0, 400}, {at(600, 800, 0), 0, 400}, {at(600, 800, 0), 1, 0}, {at(601, 800, 0), 1, -1}, {at(0, 0, 0), -1, -1}, {at(0, 0, 0), 1001, -1}, {at(0, 0, 0), math.MinInt, -1}} {
		same(t, fmt.Sprint(x), circle.Left(watch, x.e, x.speed), x.want)
	}
}

func TestZonesOfTheBox(t *testing.T) {
	r := rand.New(rand.NewSource(18))
	for range 3000 {
		e := at(r.Intn(2400)-1200, r.Intn(2400)-1200, r.Intn(300))
		place := at(e.Point.X+r.Intn(2*e.Bound+1)-e.Bound, e.Point.Y+r.Intn(2*e.Bound+1)-e.Bound, 0)
		if zone := circle.Worst(watch, place); zone > circle.Worst(watch, e) || zone < circle.Best(watch, e) {
			t.Fatalf("%v is in the zone %d, %v from %d to %d", place, zone, e, circle.Best(watch, e), circle.Worst(watch, e))
		}
		wide := e
		wide.Bound += r.Intn(200)
		if circle.Worst(watch, wide) < circle.Worst(watch, e) || circle.Best(watch, wide) > circle.Best(watch, e) {
			t.Fatalf("%v and %v", e, wide)
		}
		speed := r.Intn(30)
		left := circle.Left(watch, e, speed)
		for n := 0; n <= api.MaxTicks && left >= 0; n++ {
			later := e
			later.Bound += n * speed
			if (circle.Worst(watch, later) == api.ZoneRed) != (n > left) {
				t.Fatalf("%v, speed %d: %d left, but not at %d", e, speed, left, n)
			}
		}
	}
}
