package weather_test

import (
	"fmt"
	"math"
	"math/rand"
	"slices"
	"testing"

	"dynpos/api"
	"dynpos/weather"
)

func same(t *testing.T, name string, got, want any) {
	t.Helper()
	if g, w := fmt.Sprint(got), fmt.Sprint(want); g != w {
		t.Errorf("%s: %s, not %s", name, g, w)
	}
}

func list(numbers ...int) []int { return append(numbers, make([]int, api.Points-len(numbers))...) }

func curves() api.Curve {
	return api.Curve{Surge: list(-500, 300, 7), Sway: list(0, 1000, -1000, 3), Yaw: list(1, 2, 3, 4, 5, 6, 7, 8, 9, 10, 11, 12)}
}

func hull() api.Hull {
	return api.Hull{Wind: curves(), Current: curves(), Wave: curves(), Mass: 1000, Inertia: 2000, Drag: 10, Spin: 20}
}

var mild = api.Weather{Wind: api.Flow{From: 300, Speed: 1000}, Current: api.Flow{From: 0, Speed: 2000}, Wave: api.Flow{From: 3599}}

func TestCheck(t *testing.T) {
	edge := hull()
	edge.Mass, edge.Inertia, edge.Drag, edge.Spin = 1000000, 1<<30, 1000000, 1<<30
	edge.Wind.Yaw = list(1000, -1000)
	least := hull()
	least.Mass, least.Inertia, least.Drag, least.Spin = 1, 1, 0, 0
	same(t, "Check", []api.Errno{weather.Check(hull()), weather.Check(edge), weather.Check(least), weather.Check(api.Hull{})}, []api.Errno{api.OK, api.OK, api.OK, api.ErrHull})
	for i, change := range []func(h *api.Hull){
		func(h *api.Hull) { h.Wind.Surge = h.Wind.Surge[1:] }, func(h *api.Hull) { h.Wind.Sway = nil }, func(h *api.Hull) { h.Wind.Yaw = append(slices.Clone(h.Wind.Yaw), 0) }, func(h *api.Hull) { h.Current.Surge = list(1001) }, func(h *api.Hull) { h.Current.Sway = list(0, -1001) }, func(h *api.Hull) { h.Current.Yaw = nil }, func(h *api.Hull) { h.Wave.Surge = nil }, func(h *api.Hull) { h.Wave.Sway = nil }, func(h *api.Hull) { h.Wave.Yaw = list(math.MinInt) },
		func(h *api.Hull) { h.Mass = 0 }, func(h *api.Hull) { h.Mass = 1000001 }, func(h *api.Hull) { h.Inertia = 0; h.Spin = 0 }, func(h *api.Hull) { h.Inertia = 1<<30 + 1 }, func(h *api.Hull) { h.Drag = -1 }, func(h *api.Hull) { h.Drag = 1001 }, func(h *api.Hull) { h.Spin = -1 }, func(h *api.Hull) { h.Spin = 2001 },
	} {
		h := hull()
		change(&h)
		same(t, fmt.Sprint(i), weather.Check(h), api.ErrHull)
		f, e := weather.Total(h, api.Weather{Wind: api.Flow{From: -1}}, -1)
		same(t, fmt.Sprint(i), []any{f, e}, []any{api.Force{}, api.ErrHull})
	}
}

func TestValid(t *testing.T) {
	same(t, "mild", weather.Valid(mild), true)
	same(t, "edges", weather.Valid(api.Weather{Wind: api.Flow{From: 3599, Speed: 10000}}), true)
	for _, f := range []api.Flow{{From: -1}, {From: 3600}, {Speed: -1}, {Speed: 10001}} {
		for i, w := range []api.Weather{{Wind: f}, {Current: f}, {Wave: f}} {
			same(t, fmt.Sprint(f, i), weather.Valid(w), false)
			g, e := weather.Total(hull(), w, 0)
			same(t, fmt.Sprint(f, i), []any{g, e}, []any{api.Force{}, api.ErrRange})
		}
		same(t, fmt.Sprint(f), weather.Load(curves(), f, 0), api.Force{})
	}
}

func TestFactor(t *testing.T) {
	l := list(0, 300)
	for angle, want := range map[int]int{0: 0, 150: 150, 300: 300, 450: 150, 600: 0, 1: 1, 599: 1, 3599: 0, -1: 0, 3600: 0, math.MinInt: 0, math.MaxInt: 0} {
		same(t, fmt.Sprint(angle), weather.Factor(l, angle), want)
	}
	l = list(-1, 0)
	l[11] = 6
	for angle, want := range map[int]int{0: -1, 150: 0, 151: 0, 149: -1, 3300: 6, 3450: 3, 3599: -1, 3500: 1} {
		same(t, fmt.Sprint(angle), weather.Factor(l, angle), want)
	}
	same(t, "wrong lists", []int{weather.Factor(nil, 5), weather.Factor(make([]int, 13), 5), weather.Factor(list(1001, 5), 300), weather.Factor(list(0, 0, -1001), 5)}, []int{0, 0, 0, 0})
}

func TestFactorIsBetween(t *testing.T) {
	r := rand.New(rand.NewSource(14))
	for range 20 {
		l := make([]int, api.Points)
		for i := range l {
			l[i] = r.Intn(2001) - 1000
		}
		for a := range api.Turn {
			x, y := l[a/300], l[(a/300+1)%api.Points]
			if f := weather.Factor(l, a); f < min(x, y) || f > max(x, y) {
				t.Fatalf("%v at %d: %d", l, a, f)
			}
		}
	}
}

func TestLoad(t *testing.T) {
	c := curves()
	for _, x := range []struct {
		f       api.Flow
		heading int
		want    api.Force
	}{
		{api.Flow{From: 300, Speed: 1000}, 0, api.Force{Surge: 300, Sway: 1000, Yaw: 2}}, {api.Flow{From: 300, Speed: 1000}, 300, api.Force{Surge: -500, Yaw: 1}}, {api.Flow{From: 0, Speed: 1000}, 3300, api.Force{Surge: 300, Sway: 1000, Yaw: 2}}, {api.Flow{From: 100, Speed: 500}, 3400, api.Force{Surge: 75, Sway: 250, Yaw: 1}},
		{api.Flow{From: 0, Speed: 10000}, 0, api.Force{Surge: -50000, Yaw: 100}}, {api.Flow{From: 0, Speed: 54}, 0, api.Force{Surge: -1}}, {api.Flow{From: 0, Speed: 31}, 0, api.Force{}}, {api.Flow{From: 300}, 0, api.Force{}}, {api.Flow{From: 300, Speed: 1000}, -1, api.Force{}}, {api.Flow{From: 300, Speed: 1000}, 3600, api.Force{}},
	} {
		same(t, fmt.Sprint(x), weather.Load(c, x.f, x.heading), x.want)
	}
	c.Yaw = nil
	same(t, "a wrong curve", weather.Load(c, api.Flow{From: 300, Speed: 1000}, 0), api.Force{})
	half := api.Curve{Surge: list(1, 1), Sway: list(-1, -1), Yaw: list(3, 3)}
	same(t, "halves are rounded up", weather.Load(half, api.Flow{Speed: 500}, 0), api.Force{Yaw: 1})
	half = api.Curve{Surge: list(2, 2), Sway: list(-2, -2), Yaw: list(-6, -6)}
	same(t, "halves are rounded up", weather.Load(half, api.Flow{Speed: 500}, 0), api.Force{Surge: 1, Yaw: -1})
}

func TestTotal(t *testing.T) {
	f, e := weather.Total(hull(), mild, 0)
	same(t, "Total", []any{f, e}, []any{api.Force{Surge: 300 - 2000, Sway: 1000, Yaw: 2 + 4}, api.OK})
	rough := api.Weather{Wind: api.Flow{From: 350, Speed: 3000}, Current: api.Flow{From: 700, Speed: 2000}, Wave: api.Flow{From: 70, Speed: 5000}}
	a, b, c := weather.Load(hull().Wind, rough.Wind, 40), weather.Load(hull().Current, rough.Current, 40), weather.Load(hull().Wave, rough.Wave, 40)
	g, e := weather.Total(hull(), rough, 40)
	same(t, "a sum of three", []any{g, e}, []any{api.Force{Surge: a.Surge + b.Surge + c.Surge, Sway: a.Sway + b.Sway + c.Sway, Yaw: a.Yaw + b.Yaw + c.Yaw}, api.OK})
	for _, x := range []api.Force{a, b, c} {
		if x.Surge == 0 || x.Sway == 0 || x.Yaw == 0 {
			t.Errorf("a load without a component: %v", x)
		}
	}
	for _, heading := range []int{-1, 3600} {
		f, e := weather.Total(hull(), mild, heading)
		same(t, fmt.Sprint(heading), []any{f, e}, []any{api.Force{}, api.ErrRange})
	}
	calm, e := weather.Total(hull(), api.Weather{}, 123)
	same(t, "no flow", []any{calm, e}, []any{api.Force{}, api.OK})
	for turn := range api.Turn {
		w := mild
		w.Wind.From, w.Current.From, w.Wave.From = (w.Wind.From+turn)%api.Turn, (w.Current.From+turn)%api.Turn, (w.Wave.From+turn)%api.Turn
		if g, _ := weather.Total(hull(), w, turn); g != f {
			t.Fatalf("turned by %d: %v, not %v", turn, g, f)
		}
	}
}
