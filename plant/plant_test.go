package plant_test

import (
	"fmt"
	"math"
	"math/rand"
	"slices"
	"testing"

	"dynpos/api"
	"dynpos/balance"
	"dynpos/board"
	"dynpos/clone"
	"dynpos/plant"
	"dynpos/restore"
	"dynpos/shed"
	"dynpos/sync"
)

func same(t *testing.T, name string, got, want any) {
	t.Helper()
	if g, w := fmt.Sprint(got), fmt.Sprint(want); g != w {
		t.Errorf("%s: %s, not %s", name, g, w)
	}
}

func act(kind, unit, value int) api.Act { return api.Act{Kind: kind, Unit: unit, Value: value} }

var table = api.Table{Start: 80, Stop: 40, Delay: 2}

// two has two buses with a tie (0), a generator at each (1, 2), and consumers: 0 at the first (3), 1 at the second one (4).
func two() api.Board {
	return api.Board{Buses: 2, Breakers: []api.Breaker{{Kind: api.BreakerTie, A: 0, B: 1}, {Kind: api.BreakerSource, A: 0, B: 0}, {Kind: api.BreakerSource, A: 1, B: 1}, {Kind: api.BreakerConsumer, A: 0, B: 0}, {Kind: api.BreakerConsumer, A: 1, B: 1}},
		Sources: []api.Source{{Rating: 100, Start: 2}, {Rating: 100}}, Consumers: []api.Consumer{{Load: 60, Least: 20, Thruster: 1}, {Load: 70, Least: 70, Preference: 1, Thruster: -1}}, Phase: 50, Frequency: 20}
}

// lit is a plant of it with generators and breakers that are connected.
func lit(closed ...int) api.Plant {
	p, _ := plant.New(two(), table)
	for _, i := range closed {
		p.Power.Closed[i] = true
		if i == 1 || i == 2 {
			p.Power.Sources[i-1].State = api.SourceReady
		}
	}
	return p
}

func TestNew(t *testing.T) {
	p, e := plant.New(two(), table)
	calm := api.Roster{High: -1, Low: -1}
	off := api.Running{Frequency: 5000}
	same(t, "New", []any{p, e}, []any{api.Plant{Power: api.Power{Closed: make([]bool, 5), Sources: []api.Running{off, off}, Limits: []int{60, 70}}, Rosters: []api.Roster{calm, calm}}, api.OK})
	same(t, "Check", plant.Check(two(), table, p), api.OK)
	p, e = plant.New(api.Board{}, api.Table{})
	same(t, "no board", []any{p, e}, []any{api.Plant{}, api.ErrLimit})
	p, e = plant.New(two(), api.Table{})
	same(t, "no table", []any{p, e}, []any{api.Plant{}, api.ErrRange})
}

func TestCheck(t *testing.T) {
	for i, x := range []struct {
		change func(b *api.Board, t *api.Table, p *api.Plant)
		want   api.Errno
	}{
		{func(b *api.Board, t *api.Table, p *api.Plant) {}, api.OK}, {func(b *api.Board, t *api.Table, p *api.Plant) { p.Time = api.MaxTime }, api.OK}, {func(b *api.Board, t *api.Table, p *api.Plant) { p.Time, p.Rosters[1] = 5, api.Roster{High: 5, Low: 0} }, api.OK}, {func(b *api.Board, t *api.Table, p *api.Plant) { p.Time, p.Rosters[1] = 5, api.Roster{High: 0, Low: 5} }, api.OK},
		{func(b *api.Board, t *api.Table, p *api.Plant) { b.Buses = 0; t.Start = 0 }, api.ErrLimit}, {func(b *api.Board, t *api.Table, p *api.Plant) { p.Power.Limits = nil; t.Start = 0 }, api.ErrShape}, {func(b *api.Board, t *api.Table, p *api.Plant) { p.Power.Limits[0] = 61 }, api.ErrState},
		{func(b *api.Board, t *api.Table, p *api.Plant) { t.Start = 0; p.Rosters = nil }, api.ErrRange}, {func(b *api.Board, t *api.Table, p *api.Plant) { p.Time = -1; p.Rosters = nil }, api.ErrRange}, {func(b *api.Board, t *api.Table, p *api.Plant) { p.Time = api.MaxTime + 1 }, api.ErrRange},
		{func(b *api.Board, t *api.Table, p *api.Plant) { p.Rosters = p.Rosters[1:] }, api.ErrShape}, {func(b *api.Board, t *api.Table, p *api.Plant) { p.Rosters = append(p.Rosters, api.Roster{High: 9}) }, api.ErrShape},
		{func(b *api.Board, t *api.Table, p *api.Plant) { p.Rosters[0].High = 1 }, api.ErrState}, {func(b *api.Board, t *api.Table, p *api.Plant) { p.Rosters[0].High = -2 }, api.ErrState}, {func(b *api.Board, t *api.Table, p *api.Plant) { p.Rosters[1].Low = 1 }, api.ErrState}, {func(b *api.Board, t *api.Table, p *api.Plant) { p.Rosters[1].Low = -2 }, api.ErrState}, {func(b *api.Board, t *api.Table, p *api.Plant) { p.Power.Sources[1].Phase = 5 }, api.ErrState},
	} {
		b, ta, p := two(), table, lit(0, 1, 2)
		x.change(&b, &ta, &p)
		same(t, fmt.Sprint(i), plant.Check(b, ta, p), x.want)
		if x.want != api.OK {
			q, events, e := plant.Step(b, ta, p, make([]api.Act, 201))
			same(t, fmt.Sprint(i), []any{q, events, e}, []any{api.Plant{}, []api.Event{}, x.want})
			states, e := plant.Trace(b, ta, p, nil)
			same(t, fmt.Sprint(i), []any{states, e}, []any{[]api.Power{}, x.want})
		}
	}
}

func TestDo(t *testing.T) {
	p := lit(0, 1, 2, 3, 4)
	p.Time = 7
	p.Events = []api.Event{{Time: 3}}
	fail := act(api.ActFail, 1, api.PartSource)
	q, states, e := plant.Do(two(), p, fail)
	opened, limited := act(api.ActOpen, 2, 0), act(api.ActLimit, 0, 30)
	same(t, "events", q.Events, []api.Event{{Time: 3}, {Time: 7, Act: fail}, {Time: 7, Act: opened}, {Time: 7, Act: limited}})
	same(t, "error", e, api.OK)
	s1, _ := restore.Act(two(), p.Power, 7, fail)
	s2, s3 := clone.Power(s1), clone.Power(s1)
	s2.Closed[2], s3.Closed[2], s3.Limits[0] = false, false, 30
	same(t, "states", states, []api.Power{s1, s2, s3})
	same(t, "the plant", []any{q.Power, q.Time, q.Rosters}, []any{s3, 7, p.Rosters})
	same(t, "the argument", []any{p.Power.Closed[2], len(p.Events)}, []any{true, 1})
}

func TestDoFollows(t *testing.T) {
	p := lit(0, 1, 2)
	p.Power.Sources[1].Phase = 9
	q, states, _ := plant.Do(two(), p, act(api.ActLimit, 0, 50))
	first := clone.Power(p.Power)
	first.Limits[0] = 50
	second := clone.Power(first)
	second.Sources[1].Phase = 0
	same(t, "states", []any{states, q.Power}, []any{[]api.Power{first, second}, second})
}

func TestDoWithErrors(t *testing.T) {
	p := lit(0, 1)
	for _, x := range []struct {
		a    api.Act
		want api.Errno
	}{{act(api.ActWait, 0, 0), api.ErrRange}, {act(api.ActClose, 99, 0), api.ErrUnknown}, {act(api.ActClose, 0, 0), api.ErrState}, {act(0, 0, 0), api.ErrRange}} {
		q, states, e := plant.Do(two(), p, x.a)
		same(t, fmt.Sprint(x.a), []any{q.Power, q.Events, states, e}, []any{p.Power, []api.Event{{Act: x.a, Err: x.want}}, []api.Power{}, api.OK})
	}
	p.Power.Limits = nil
	q, states, e := plant.Do(two(), p, act(api.ActClose, 2, 0))
	same(t, "no state", []any{q, states, e}, []any{api.Plant{}, []api.Power{}, api.ErrShape})
}

func TestDoKeepsAllEvents(t *testing.T) {
	p := lit()
	p.Events = make([]api.Event, api.MaxEvents)
	q, _, _ := plant.Do(two(), p, act(api.ActLimit, 0, 50))
	same(t, "events", len(q.Events), api.MaxEvents+1)
	q, events, _ := plant.Step(two(), table, q, []api.Act{act(api.ActLimit, 0, 40), act(api.ActLimit, 0, 99)})
	want := []api.Event{{Act: act(api.ActLimit, 0, 40)}, {Act: act(api.ActLimit, 0, 99), Err: api.ErrRange}}
	same(t, "events of a step", []any{len(q.Events), events, q.Events[198:]}, []any{api.MaxEvents, want, want})
}

func TestStepErrors(t *testing.T) {
	p := lit(1)
	q, _, e := plant.Step(two(), table, p, make([]api.Act, 200))
	same(t, "200 acts", []any{e, q.Time}, []any{api.OK, 1})
	p.Time = api.MaxTime
	_, _, e = plant.Step(two(), table, p, make([]api.Act, 201))
	same(t, "201 acts", e, api.ErrLimit)
	q, events, e := plant.Step(two(), table, p, nil)
	same(t, "the end of time", []any{q, events, e}, []any{api.Plant{}, []api.Event{}, api.ErrTime})
}

func TestStepSchedules(t *testing.T) {
	p := lit(0, 1, 3)
	p.Power.Limits[0] = 60
	b := two()
	b.Sources[0].Rating = 60
	b.Consumers[0].Least = 60
	p.Power.Sources[0].Frequency = 5010
	for range 4 {
		var e api.Errno
		p, _, e = plant.Step(b, table, p, nil)
		same(t, "error", e, api.OK)
	}
	var acts []api.Act
	for _, x := range p.Events {
		acts = append(acts, x.Act)
	}
	same(t, "acts", acts, []api.Act{act(api.ActStart, 1, 0), act(api.ActSync, 1, 0), act(api.ActClose, 2, 0)})
	same(t, "times", []int{p.Events[0].Time, p.Events[1].Time, p.Time}, []int{2, 3, 4})
	same(t, "connected", []any{p.Power.Closed[2], p.Power.Sources[0].Phase, p.Power.Sources[1].Phase, p.Rosters}, []any{true, 1440, 1440, []api.Roster{{High: -1, Low: -1}, {High: -1, Low: -1}}})
}

func TestStepOfRosters(t *testing.T) {
	p := lit(1, 2, 3, 4)
	p.Time, p.Rosters = 9, []api.Roster{{High: 3, Low: 4}, {High: -1, Low: 8}}
	b := two()
	b.Sources[1].Rating = 80
	q, _, _ := plant.Step(b, table, p, nil)
	same(t, "two islands", q.Rosters, []api.Roster{{High: -1, Low: -1}, {High: 9, Low: -1}})
	q, _, _ = plant.Step(b, table, p, []api.Act{act(api.ActClose, 0, 0)})
	same(t, "one island", q.Rosters, []api.Roster{{High: -1, Low: -1}, {High: -1, Low: -1}})
	q, _, _ = plant.Step(b, table, p, []api.Act{act(api.ActOpen, 1, 0)})
	same(t, "one is dead", q.Rosters, []api.Roster{{High: -1, Low: -1}, {High: 9, Low: -1}})
}

func TestStepWaits(t *testing.T) {
	p := lit(2)
	p.Power.Sources[1].Frequency = 5001
	q, events, _ := plant.Step(two(), table, p, []api.Act{act(api.ActStart, 0, 0), act(api.ActWait, 0, 0)})
	same(t, "one tick", []any{q.Time, q.Power.Sources[0].State, q.Power.Sources[1].Phase, len(events)}, []any{1, api.SourceStarting, 36, 2})
	q, events, _ = plant.Step(two(), table, q, nil)
	same(t, "two ticks", []any{q.Time, q.Power.Sources[0].State, q.Power.Sources[1].Phase, len(events)}, []any{2, api.SourceReady, 72, 0})
}

func TestTrace(t *testing.T) {
	p := lit(0, 1, 2, 3, 4)
	acts := []api.Act{act(api.ActFail, 1, api.PartSource), act(api.ActClose, 99, 0), act(api.ActLimit, 0, 25)}
	states, e := plant.Trace(two(), table, p, acts)
	q, _, _ := plant.Step(two(), table, p, acts)
	want := []api.Power{p.Power}
	r := p
	for _, a := range acts {
		var l []api.Power
		r, l, _ = plant.Do(two(), r, a)
		want = append(want, l...)
	}
	same(t, "Trace", []any{states, e}, []any{append(want, q.Power), api.OK})
}

func TestAble(t *testing.T) {
	s := api.Ship{Bow: 40, Thrusters: []api.Thruster{{Kind: api.KindMain, Max: 500, Cost: 1}, {Kind: api.KindMain, Max: 500, Cost: 3}}}
	b := two()
	p := lit(0, 1, 3).Power
	able, e := plant.Able(s, b, p)
	same(t, "Able", []any{able, e}, []any{[]int{0, 141}, api.OK})
	b.Consumers[1].Thruster = 1
	able, _ = plant.Able(s, b, p)
	same(t, "the first one counts", able, []int{0, 141})
	p.Limits[0] = 19
	able, _ = plant.Able(s, b, p)
	same(t, "not served", able, []int{0, 0})
	able, e = plant.Able(api.Ship{}, b, api.Power{})
	same(t, "no ship", []any{able, e}, []any{[]int{}, api.ErrRange})
	able, e = plant.Able(s, b, api.Power{})
	same(t, "no state", []any{able, e}, []any{[]int{}, api.ErrShape})
}

func TestBlack(t *testing.T) {
	same(t, "Black", []bool{plant.Black(two(), lit().Power), plant.Black(two(), lit(0, 3).Power), plant.Black(two(), lit(2).Power), plant.Black(two(), api.Power{}), plant.Black(api.Board{}, api.Power{})}, []bool{true, true, false, false, false})
}

func TestManyTicks(t *testing.T) {
	r := rand.New(rand.NewSource(13))
	b := two()
	b.Phase, b.Frequency = 20, 1
	for range 60 {
		p, _ := plant.New(b, table)
		for range 40 {
			var acts []api.Act
			for range r.Intn(4) {
				acts = append(acts, act(r.Intn(11), r.Intn(6)-1, r.Intn(80)*r.Intn(2)+r.Intn(5)))
			}
			for i := range p.Power.Sources {
				if _, ok := board.Connected(b, p.Power, i); !ok && r.Intn(3) == 0 {
					p.Power.Sources[i].Frequency = 4999 + r.Intn(3)
				}
			}
			states, e := plant.Trace(b, table, p, acts)
			q, _, f := plant.Step(b, table, p, acts)
			if e != api.OK || f != api.OK || plant.Check(b, table, q) != api.OK || !slices.Equal(states[len(states)-1].Closed, q.Power.Closed) {
				t.Fatalf("%v, %v: errors %d and %d", p, acts, e, f)
			}
			for i := range states[1:] {
				if sync.Bad(b, states[i], states[i+1]) {
					t.Fatalf("%v, %v: state %d is bad", p, acts, i+1)
				}
			}
			look(t, b, p, acts)
			p = q
		}
	}
}

// look checks the plants behind each act alone.
func look(t *testing.T, b api.Board, p api.Plant, acts []api.Act) {
	t.Helper()
	for _, a := range acts {
		q, states, _ := plant.Do(b, p, a)
		for bus := range b.Buses {
			if balance.Overloaded(b, q.Power, bus) {
				t.Fatalf("%v, %v: overloaded", p, a)
			}
		}
		if len(states) > 0 && !shed.Check(b, states[0], q.Power) {
			t.Fatalf("%v, %v: wrongly shed", p, a)
		}
		p = q
	}
}

func TestWildActs(t *testing.T) {
	p := lit(0, 1, 2, 3, 4)
	for _, n := range []int{math.MinInt, -1, 5, math.MaxInt} {
		for kind := -1; kind < 12; kind++ {
			if q, _, e := plant.Do(two(), p, act(kind, n, n)); e != api.OK || q.Events[0].Err == api.OK {
				t.Errorf("%d, %d: %v", kind, n, q.Events)
			}
		}
	}
}
