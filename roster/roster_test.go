package roster_test

import (
	"fmt"
	"math"
	"testing"

	"dynpos/api"
	"dynpos/roster"
	"dynpos/sync"
)

func same(t *testing.T, name string, got, want any) {
	t.Helper()
	if g, w := fmt.Sprint(got), fmt.Sprint(want); g != w {
		t.Errorf("%s: %s, not %s", name, g, w)
	}
}

var table = api.Table{Start: 80, Stop: 40, Delay: 5}

// plant has two buses with a tie (0), generators 0 and 1 at the first (1, 2) and 2 at the second one (3), and a consumer of 300 at the first one (4).
func plant(limit int, states ...int) (api.Board, api.Power) {
	b := api.Board{Buses: 2, Breakers: []api.Breaker{{Kind: api.BreakerTie, A: 0, B: 1}, {Kind: api.BreakerSource, A: 0, B: 0}, {Kind: api.BreakerSource, A: 0, B: 1}, {Kind: api.BreakerSource, A: 1, B: 2}, {Kind: api.BreakerConsumer, A: 0, B: 0}},
		Sources: []api.Source{{Rating: 100}, {Rating: 100}, {Rating: 50}}, Consumers: []api.Consumer{{Load: 300, Thruster: -1}}}
	p := api.Power{Closed: []bool{true, false, false, false, true}, Limits: []int{limit}}
	for i, s := range states {
		p.Sources = append(p.Sources, api.Running{State: s % 10, Frequency: 5000, Phase: 100 * i})
		p.Closed[1+i] = s >= 10 // 12 is ready and connected
	}
	return b, p
}

func TestValid(t *testing.T) {
	for _, x := range []struct {
		t    api.Table
		want bool
	}{{table, true}, {api.Table{Start: 2, Stop: 1}, true}, {api.Table{Start: 100, Stop: 99, Delay: 600}, true}, {api.Table{Start: 100, Stop: 100}, false}, {api.Table{Start: 101, Stop: 99}, false}, {api.Table{Start: 2}, false}, {api.Table{Start: 40, Stop: 40}, false}, {api.Table{Start: 80, Stop: 40, Delay: -1}, false}, {api.Table{Start: 80, Stop: 40, Delay: 601}, false}} {
		same(t, fmt.Sprint(x), roster.Valid(x.t), x.want)
	}
}

func TestHigh(t *testing.T) {
	for limit, want := range map[int]bool{80: false, 81: true, 0: false, 300: true} {
		b, p := plant(limit, 12, 2, 0)
		same(t, fmt.Sprint(limit), []bool{roster.High(b, table, p, 0), roster.High(b, table, p, 1), roster.High(b, table, p, 2), roster.High(b, api.Table{}, p, 0)}, []bool{want, want, false, false})
	}
	b, p := plant(300, 2, 0, 0)
	same(t, "a dead island", roster.High(b, table, p, 0), false)
	p.Limits[0] = 301
	p.Closed[1] = true
	same(t, "no state", roster.High(b, table, p, 0), false)
}

func TestLow(t *testing.T) {
	broken := func(l ...int) []api.Part {
		var parts []api.Part
		for _, i := range l {
			parts = append(parts, api.Part{Kind: api.PartBreaker, Number: i})
		}
		return parts
	}
	for i, x := range []struct {
		limit  int
		states []int
		broken []api.Part
		want   int
		ok     bool
	}{
		{60, []int{12, 12, 12}, nil, 2, true}, {80, []int{12, 12, 12}, nil, 2, true}, {81, []int{12, 12, 12}, nil, 0, false}, {60, []int{12, 12, 12}, broken(3), 1, true}, {61, []int{12, 12, 12}, broken(3), 0, false}, {60, []int{12, 12, 12}, broken(2, 3), 0, true}, {60, []int{12, 12, 12}, broken(1, 2, 3), 0, false},
		{40, []int{12, 12, 0}, nil, 1, true}, {0, []int{12, 2, 0}, nil, 0, false}, {20, []int{12, 0, 12}, nil, 2, true}, {41, []int{12, 0, 12}, nil, 0, false}, {20, []int{12, 0, 12}, broken(3), 0, true}, {0, []int{0, 0, 0}, nil, 0, false}, {301, []int{12, 12, 12}, nil, 0, false},
	} {
		b, p := plant(x.limit, x.states...)
		p.Broken = x.broken
		got, ok := roster.Low(b, table, p, 1)
		same(t, fmt.Sprint(i), []any{got, ok}, []any{x.want, x.ok})
		got, ok = roster.Low(b, api.Table{Start: 40, Stop: 40}, p, 1)
		same(t, "a wrong table", []any{got, ok}, []any{0, false})
		_, ok = roster.Low(b, table, p, 2)
		same(t, "no bus", ok, false)
	}
}

func TestNext(t *testing.T) {
	for i, x := range []struct {
		states []int
		broken []api.Part
		want   int
		ok     bool
	}{
		{[]int{12, 0, 0}, nil, 1, true}, {[]int{12, 0, 1}, nil, 2, true}, {[]int{12, 1, 2}, nil, 2, true}, {[]int{12, 2, 2}, nil, 1, true}, {[]int{12, 3, 0}, nil, 2, true}, {[]int{12, 12, 12}, nil, 0, false}, {[]int{12, 3, 12}, nil, 0, false}, {[]int{0, 1, 1}, nil, 1, true}, {[]int{10, 12, 3}, nil, 0, true}, {[]int{11, 10, 3}, nil, 0, true},
		{[]int{12, 2, 0}, []api.Part{{Kind: api.PartSource, Number: 1}}, 2, true}, {[]int{12, 2, 0}, []api.Part{{Kind: api.PartBreaker, Number: 2}}, 2, true}, {[]int{12, 12, 0}, []api.Part{{Kind: api.PartBus, Number: 1}}, 0, false},
	} {
		b, p := plant(10, x.states...)
		p.Broken = x.broken
		got, ok := roster.Next(b, p, 0)
		same(t, fmt.Sprint(i), []any{got, ok}, []any{x.want, x.ok})
	}
	b, p := plant(10, 12, 12, 2)
	p.Closed[0] = false
	for bus, want := range map[int]string{0: "0 false", 1: "2 true", 2: "0 false", -1: "0 false"} {
		got, ok := roster.Next(b, p, bus)
		same(t, fmt.Sprint(bus), fmt.Sprint(got, ok), want)
	}
}

func TestStepStarts(t *testing.T) {
	b, p := plant(81, 12, 0, 0)
	r := api.Roster{High: -1, Low: -1}
	for time := 10; time <= 15; time++ {
		var acts []api.Act
		var e api.Errno
		r, acts, e = roster.Step(b, table, p, 0, time, r)
		want := []api.Act{}
		if time == 15 {
			want = []api.Act{{Kind: api.ActStart, Unit: 1}}
		}
		same(t, fmt.Sprint(time), []any{r, acts, e}, []any{api.Roster{High: 10, Low: -1}, want, api.OK})
	}
	p.Limits[0] = 80
	r, _, _ = roster.Step(b, table, p, 0, 16, r)
	same(t, "no more high", r, api.Roster{High: -1, Low: -1})
}

func TestStepBehindTheDelay(t *testing.T) {
	late := api.Roster{High: 3, Low: -1}
	for i, x := range []struct {
		states []int
		want   api.Roster
		acts   []api.Act
	}{
		{[]int{12, 1, 0}, late, nil}, {[]int{12, 3, 3}, late, nil}, {[]int{12, 1, 2}, api.Roster{High: -1, Low: -1}, []api.Act{{Kind: api.ActSync, Unit: 2, Value: 0}, {Kind: api.ActClose, Unit: 3}}}, {[]int{2, 3, 12}, api.Roster{High: -1, Low: -1}, []api.Act{{Kind: api.ActSync, Unit: 0, Value: 1}, {Kind: api.ActClose, Unit: 1}}},
	} {
		b, p := plant(200, x.states...)
		r, acts, e := roster.Step(b, table, p, 1, 8, late)
		same(t, fmt.Sprint(i), []any{r, acts, e}, []any{x.want, append([]api.Act{}, x.acts...), api.OK})
		r, acts, _ = roster.Step(b, table, p, 1, 7, late)
		same(t, fmt.Sprint(i), []any{r, acts}, []any{late, []api.Act{}})
	}
}

func TestStepStops(t *testing.T) {
	b, p := plant(60, 12, 12, 12)
	r := api.Roster{High: -1, Low: -1}
	r, acts, _ := roster.Step(b, table, p, 0, 10, r)
	same(t, "low", []any{r, acts}, []any{api.Roster{High: -1, Low: 10}, []api.Act{}})
	_, acts, _ = roster.Step(b, table, p, 0, 14, r)
	same(t, "not yet", acts, []api.Act{})
	r, acts, e := roster.Step(b, table, p, 0, 15, r)
	same(t, "stop", []any{r, acts, e}, []any{api.Roster{High: -1, Low: -1}, []api.Act{{Kind: api.ActOpen, Unit: 3}, {Kind: api.ActStop, Unit: 2}}, api.OK})
	p.Limits[0] = 100
	r, acts, _ = roster.Step(b, table, p, 0, 15, api.Roster{High: -1, Low: 10})
	same(t, "no more low", []any{r, acts}, []any{api.Roster{High: -1, Low: -1}, []api.Act{}})
	b, p = plant(0, 12, 12, 12)
	_, acts, _ = roster.Step(b, api.Table{Start: 80, Stop: 40}, p, 0, 0, api.Roster{High: -1, Low: -1})
	same(t, "without a delay", acts, []api.Act{{Kind: api.ActOpen, Unit: 3}, {Kind: api.ActStop, Unit: 2}})
}

func TestStepErrors(t *testing.T) {
	b, p := plant(60, 12, 12, 12)
	calm := api.Roster{High: -1, Low: -1}
	for i, x := range []struct {
		p         api.Power
		t         api.Table
		bus, time int
		r         api.Roster
		want      api.Errno
	}{
		{api.Power{}, api.Table{}, 9, -1, calm, api.ErrShape}, {p, api.Table{}, 9, 0, calm, api.ErrRange}, {p, table, 9, -1, calm, api.ErrRange}, {p, table, 9, api.MaxTime + 1, calm, api.ErrRange}, {p, table, 9, 5, api.Roster{High: 6, Low: -1}, api.ErrRange}, {p, table, 9, 5, api.Roster{High: -1, Low: 6}, api.ErrRange}, {p, table, 9, 5, api.Roster{High: -2, Low: -1}, api.ErrRange}, {p, table, 9, 5, api.Roster{High: -1, Low: math.MinInt}, api.ErrRange},
		{p, table, 1, api.MaxTime, calm, api.OK}, {p, table, 2, 5, calm, api.ErrUnknown}, {p, table, -1, 5, calm, api.ErrUnknown}, {p, table, 1, 5, api.Roster{High: 5, Low: 5}, api.OK},
	} {
		r, acts, e := roster.Step(b, x.t, x.p, x.bus, x.time, x.r)
		same(t, fmt.Sprint(i), e, x.want)
		if e != api.OK {
			same(t, fmt.Sprint(i), []any{r, acts}, []any{api.Roster{}, []api.Act{}})
		}
	}
}

func TestActsArePossible(t *testing.T) {
	b, p := plant(200, 12, 2, 2)
	_, acts, _ := roster.Step(b, api.Table{Start: 80, Stop: 40}, p, 1, 9, api.Roster{High: -1, Low: -1})
	same(t, "not permitted without Match", sync.May(b, p, acts[1].Unit), api.ErrInterlock)
	q, e := sync.Match(b, p, acts[0].Unit, acts[0].Value)
	same(t, "Match", e, api.OK)
	same(t, "May", sync.May(b, q, acts[1].Unit), api.OK)
	b, p = plant(60, 12, 12, 12)
	gone, _ := roster.Low(b, table, p, 0)
	p.Closed[1+gone] = false
	same(t, "what is stopped does not make the load high", roster.High(b, table, p, 0), false)
}
