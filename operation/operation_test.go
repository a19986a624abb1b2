package operation_test

import (
	"fmt"
	"math"
	"testing"

	"dynpos/api"
	"dynpos/operation"
)

func same(t *testing.T, name string, got, want any) {
	t.Helper()
	if g, w := fmt.Sprint(got), fmt.Sprint(want); g != w {
		t.Errorf("%s: %s, not %s", name, g, w)
	}
}

var dive = api.Operation{Name: "dive", Class: api.LevelGreen, Circle: api.Circle{Yellow: 500, Red: 1000}, Drift: 20}

// wrong has operations that are not valid, with their errors.
func wrong() map[api.Errno][]api.Operation {
	l := map[api.Errno][]api.Operation{}
	for _, x := range []struct {
		change func(o *api.Operation)
		want   api.Errno
	}{
		{func(o *api.Operation) { o.Name = "" }, api.ErrOperation}, {func(o *api.Operation) { o.Name = "Dive" }, api.ErrOperation}, {func(o *api.Operation) { o.Class = 0 }, api.ErrOperation}, {func(o *api.Operation) { o.Class = 4 }, api.ErrOperation}, {func(o *api.Operation) { o.Drift = -1 }, api.ErrOperation}, {func(o *api.Operation) { o.Drift = 1001; o.Circle.Yellow = -1 }, api.ErrOperation}, {func(o *api.Operation) { o.Circle.Yellow = 1001 }, api.ErrCircle},
	} {
		o := dive
		x.change(&o)
		l[x.want] = append(l[x.want], o)
	}
	return l
}

func TestCheck(t *testing.T) {
	same(t, "valid", []api.Errno{operation.Check(dive), operation.Check(api.Operation{Name: "a", Class: 1}), operation.Check(api.Operation{Name: "a", Class: 2, Drift: 1000})}, []api.Errno{0, 0, 0})
	for want, l := range wrong() {
		for _, o := range l {
			same(t, fmt.Sprint(o), []any{operation.Check(o), operation.Fit(o, 3, 1)}, []any{want, false})
			n, e := operation.Next(o, -1, 3, 1, false)
			same(t, fmt.Sprint(o), []any{n, e}, []any{0, want})
			n, e = operation.Ask(o, -1, 3, 1, 0)
			same(t, fmt.Sprint(o), []any{n, e}, []any{0, want})
			states, e := operation.Run(o, 0, []int{3}, []int{1})
			same(t, fmt.Sprint(o), []any{states, e}, []any{[]int{}, want})
		}
	}
}

func TestFit(t *testing.T) {
	easy := dive
	easy.Class = api.LevelYellow
	for level := 0; level < 5; level++ {
		for zone := 0; zone < 5; zone++ {
			same(t, fmt.Sprint(level, zone), []bool{operation.Fit(dive, level, zone), operation.Fit(easy, level, zone)}, []bool{level == 3 && zone == 1, (level == 2 || level == 3) && zone == 1})
		}
	}
}

func TestNext(t *testing.T) {
	const idle, ready, active, advisory, leaving, left = 0, 1, 2, 3, 4, 5
	for level := 1; level <= 3; level++ {
		for zone := 1; zone <= 3; zone++ {
			for _, done := range []bool{false, true} {
				fit := level == 3 && zone == 1
				running := map[bool]int{true: active, false: advisory}[fit]
				if level == 1 || zone == 3 {
					running = leaving
				}
				want := []int{idle, map[bool]int{true: ready, false: idle}[fit], running, running, map[bool]int{true: left, false: leaving}[done], left}
				for state, next := range want {
					got, e := operation.Next(dive, state, level, zone, done)
					same(t, fmt.Sprint(state, level, zone, done), []any{got, e}, []any{next, api.OK})
				}
			}
		}
	}
	red := api.Operation{Name: "drift", Class: api.LevelRed}
	got, e := operation.Next(red, active, 1, 1, false)
	same(t, "red status", []any{got, e, operation.Fit(red, 1, 1)}, []any{leaving, api.OK, true})
	for _, x := range [][3]int{{-1, 3, 1}, {6, 3, 1}, {0, 0, 1}, {0, 4, 1}, {0, 3, 0}, {0, 3, 4}, {math.MinInt, math.MinInt, math.MaxInt}} {
		got, e := operation.Next(dive, x[0], x[1], x[2], true)
		again, f := operation.Ask(dive, x[0], x[1], x[2], 9)
		same(t, fmt.Sprint(x), []any{got, e, again, f}, []any{0, api.ErrRange, 0, api.ErrRange})
	}
}

func TestAsk(t *testing.T) {
	to := map[[2]int]int{{0, api.RequestReady}: 1, {1, api.RequestStart}: 2, {1, api.RequestStop}: 0, {2, api.RequestStop}: 4, {3, api.RequestStop}: 4, {5, api.RequestReset}: 0}
	for state := range 6 {
		for request := range 5 {
			for level := 1; level <= 3; level++ {
				for zone := 1; zone <= 3; zone++ {
					want, ok := to[[2]int{state, request}]
					e := api.OK
					switch begins := request == api.RequestReady || request == api.RequestStart; {
					case request == api.RequestNone:
						want = state
					case !ok:
						e = api.ErrOperation
					case begins && level < 3:
						want, e = 0, api.ErrClass
					case begins && zone > 1:
						want, e = 0, api.ErrCircle
					}
					got, f := operation.Ask(dive, state, level, zone, request)
					same(t, fmt.Sprint(state, request, level, zone), []any{got, f}, []any{want, e})
				}
			}
		}
	}
	for _, request := range []int{-1, 5} {
		got, e := operation.Ask(dive, 0, 3, 1, request)
		same(t, fmt.Sprint(request), []any{got, e}, []any{0, api.ErrRange})
	}
}

func TestRun(t *testing.T) {
	states, e := operation.Run(dive, api.OperationActive, []int{3, 2, 3, 3, 1, 3}, []int{1, 1, 2, 1, 1, 1})
	same(t, "Run", []any{states, e}, []any{[]int{2, 3, 3, 2, 4, 4}, api.OK})
	for i, x := range []struct {
		state         int
		levels, zones []int
		want          api.Errno
	}{{0, make([]int, 401), nil, api.ErrShape}, {0, make([]int, 401), make([]int, 401), api.ErrLimit}, {0, make([]int, 400), make([]int, 400), api.ErrRange}, {9, nil, nil, api.OK}, {9, []int{3}, []int{1}, api.ErrRange}, {0, []int{3, 0}, []int{1, 1}, api.ErrRange}} {
		states, e := operation.Run(dive, x.state, x.levels, x.zones)
		same(t, fmt.Sprint(i), []any{states, e}, []any{[]int{}, x.want})
	}
}
