package vessel_test

import (
	"fmt"
	"math"
	"testing"

	"dynpos/api"
	"dynpos/vessel"
)

func same(t *testing.T, name string, got, want any) {
	t.Helper()
	if g, w := fmt.Sprint(got), fmt.Sprint(want); g != w {
		t.Errorf("%s: %s, not %s", name, g, w)
	}
}

func hull(mass, inertia, drag, spin int) api.Hull {
	c := api.Curve{Surge: make([]int, 12), Sway: make([]int, 12), Yaw: make([]int, 12)}
	return api.Hull{Wind: c, Current: c, Wave: c, Mass: mass, Inertia: inertia, Drag: drag, Spin: spin}
}

func TestValid(t *testing.T) {
	edge := api.Motion{Time: api.MaxTime, X: 10000000000, Y: -10000000000, Course: 359999, Surge: 100000, Sway: -100000, Turn: -10000}
	same(t, "valid", []bool{vessel.Valid(api.Motion{}), vessel.Valid(edge)}, []bool{true, true})
	for _, m := range []api.Motion{{Time: -1}, {Time: api.MaxTime + 1}, {X: 10000000001}, {X: -10000000001}, {Y: 10000000001}, {Y: math.MinInt}, {Course: -1}, {Course: 360000}, {Surge: 100001}, {Surge: -100001}, {Sway: 100001}, {Sway: -100001}, {Turn: 10001}, {Turn: -10001}} {
		same(t, fmt.Sprint(m), vessel.Valid(m), false)
		got, e := vessel.Step(hull(1, 1, 0, 0), m, api.Force{Surge: math.MaxInt})
		same(t, fmt.Sprint(m), []any{got, e}, []any{api.Motion{}, api.ErrMotion})
	}
}

func TestPlaceHeadingStill(t *testing.T) {
	for n, want := range map[int]int{0: 0, 149: 1, 150: 2, -150: -1, -151: -2, 49: 0, 50: 1, -50: 0, -51: -1, 10000000000: 100000000, -10000000000: -100000000, 1 << 60: 11529215046068470, -1 << 60: -11529215046068470} {
		same(t, fmt.Sprint(n), vessel.Place(api.Motion{X: n, Y: -7}), api.Point{X: want})
		same(t, fmt.Sprint(n), vessel.Place(api.Motion{Y: n}), api.Point{Y: want})
	}
	for course, want := range map[int]int{0: 0, 99: 0, 100: 1, 359999: 3599, 360000: 0, -1: 3599, -100: 3599, -101: 3598, 720150: 1} {
		same(t, fmt.Sprint(course), vessel.Heading(api.Motion{Course: course}), want)
	}
	vessel.Place(api.Motion{X: math.MinInt, Y: math.MaxInt})
	vessel.Heading(api.Motion{Course: math.MinInt})
	same(t, "Still", []bool{vessel.Still(api.Motion{X: 5, Course: 7, Time: 9}), vessel.Still(api.Motion{Surge: 1}), vessel.Still(api.Motion{Sway: -1}), vessel.Still(api.Motion{Turn: 1})}, []bool{true, false, false, false})
}

func TestStep(t *testing.T) {
	for _, x := range []struct {
		name string
		h    api.Hull
		m    api.Motion
		f    api.Force
		want api.Motion
	}{
		{"the example", hull(1000, 1, 0, 0), api.Motion{}, api.Force{Surge: 100}, api.Motion{Time: 1, X: 1000, Surge: 1000}},
		{"still", hull(1000, 1000, 500, 500), api.Motion{Time: 5, X: 7, Y: 8, Course: 9}, api.Force{}, api.Motion{Time: 6, X: 7, Y: 8, Course: 9}},
		{"to starboard, pointing east", hull(1000, 1, 0, 0), api.Motion{Course: 90000}, api.Force{Sway: 100}, api.Motion{Time: 1, X: -1000, Course: 90000, Sway: 1000}},
		{"drag", hull(1000, 1000, 100, 200), api.Motion{Surge: 1000, Sway: -500, Turn: 95}, api.Force{}, api.Motion{Time: 1, X: 900, Y: -450, Course: 76, Surge: 900, Sway: -450, Turn: 76}},
		{"rounded", hull(1000000, 1000000, 0, 0), api.Motion{}, api.Force{Surge: 50, Sway: -50, Yaw: 49}, api.Motion{Time: 1, X: 1, Surge: 1}},
		{"turned first", hull(1000, 1000, 0, 0), api.Motion{Surge: 1000, Turn: 9000, Course: 81000}, api.Force{}, api.Motion{Time: 1, Y: 1000, Course: 90000, Surge: 1000, Turn: 9000}},
		{"over the north", hull(1, 1, 0, 0), api.Motion{Course: 359990, Turn: 20}, api.Force{}, api.Motion{Time: 1, Course: 10, Turn: 20}},
		{"and back", hull(1, 1, 0, 0), api.Motion{Course: 10, Turn: -20}, api.Force{}, api.Motion{Time: 1, Course: 359990, Turn: -20}},
		{"a great inertia", hull(1, 1<<30, 0, 1<<30), api.Motion{Turn: 10000}, api.Force{Yaw: 1000000}, api.Motion{Time: 1, Course: 9, Turn: 9}},
		{"a great inertia, rounded", hull(1, 1<<30, 0, 0), api.Motion{}, api.Force{Yaw: 53687}, api.Motion{Time: 1}},
		{"a great inertia, rounded up", hull(1, 1<<30, 0, 0), api.Motion{}, api.Force{Yaw: 53688}, api.Motion{Time: 1, Turn: 1, Course: 1}},
		{"a great inertia, back", hull(1, 1<<30, 0, 0), api.Motion{}, api.Force{Yaw: -53688}, api.Motion{Time: 1, Turn: -1, Course: 359999}},
		{"to the north-east", hull(1, 1, 0, 0), api.Motion{Course: 45099, Surge: 1000, Sway: 10}, api.Force{}, api.Motion{Time: 1, X: 699, Y: 713, Course: 45099, Surge: 1000, Sway: 10}},
	} {
		got, e := vessel.Step(x.h, x.m, x.f)
		same(t, x.name, []any{got, e}, []any{x.want, api.OK})
	}
}

func TestStepErrors(t *testing.T) {
	h := hull(1000, 1000, 0, 0)
	for _, x := range []struct {
		h    api.Hull
		m    api.Motion
		f    api.Force
		want api.Errno
	}{
		{api.Hull{}, api.Motion{Time: -1}, api.Force{}, api.ErrHull}, {h, api.Motion{}, api.Force{Surge: 1000001}, api.ErrRange}, {h, api.Motion{}, api.Force{Sway: -1000001}, api.ErrRange}, {h, api.Motion{}, api.Force{Yaw: math.MinInt}, api.ErrRange},
		{h, api.Motion{Time: api.MaxTime}, api.Force{}, api.ErrLimit}, {h, api.Motion{X: 10000000000, Surge: 1}, api.Force{}, api.ErrLimit}, {h, api.Motion{}, api.Force{Surge: 10001}, api.ErrLimit}, {h, api.Motion{}, api.Force{Surge: 10000}, api.OK}, {h, api.Motion{}, api.Force{Yaw: 1001}, api.ErrLimit}, {h, api.Motion{Sway: -100000}, api.Force{Sway: -1}, api.ErrLimit},
	} {
		got, e := vessel.Step(x.h, x.m, x.f)
		same(t, fmt.Sprint(x.m, x.f), e, x.want)
		again, f := vessel.Run(x.h, x.m, x.f, 1)
		same(t, fmt.Sprint(x.m, x.f), []any{again, f}, []any{got, e})
		if e != api.OK {
			same(t, fmt.Sprint(x.m, x.f), got, api.Motion{})
		}
	}
}

func TestRun(t *testing.T) {
	h, m, f := hull(1000, 3000, 7, 11), api.Motion{X: 5, Course: 12345, Surge: 33, Turn: -40}, api.Force{Surge: 9, Sway: -4, Yaw: 3}
	whole, e := vessel.Run(h, m, f, 100)
	same(t, "error", e, api.OK)
	for _, a := range []int{0, 1, 37, 100} {
		part, _ := vessel.Run(h, m, f, a)
		got, e := vessel.Run(h, part, f, 100-a)
		same(t, fmt.Sprint(a), []any{got, e}, []any{whole, api.OK})
	}
	for _, x := range []struct {
		h     api.Hull
		m     api.Motion
		f     api.Force
		ticks int
		want  api.Errno
	}{{api.Hull{}, m, f, -1, api.ErrLimit}, {h, m, f, 401, api.ErrLimit}, {h, m, api.Force{}, 400, api.OK}, {api.Hull{}, m, f, 0, api.ErrHull}, {h, api.Motion{Time: -1}, f, 0, api.ErrMotion}, {h, m, api.Force{Yaw: 1000001}, 0, api.ErrRange}, {h, m, api.Force{Surge: 9000}, 50, api.ErrLimit}, {h, api.Motion{Time: api.MaxTime - 2}, f, 3, api.ErrLimit}} {
		got, e := vessel.Run(x.h, x.m, x.f, x.ticks)
		same(t, fmt.Sprint(x.ticks), e, x.want)
		if e != api.OK {
			same(t, fmt.Sprint(x.ticks), got, api.Motion{})
		}
	}
}

func TestForthAndBack(t *testing.T) {
	h, m := hull(1000, 1000, 0, 0), api.Motion{Course: 7777, Surge: 5, Sway: 9}
	forth, _ := vessel.Step(h, m, api.Force{Surge: 30, Sway: -20})
	back, _ := vessel.Step(h, forth, api.Force{Surge: -30, Sway: 20})
	same(t, "speeds", []int{back.Surge, back.Sway, back.Turn}, []int{5, 9, 0})
}
