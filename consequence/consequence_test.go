package consequence_test

import (
	"fmt"
	"testing"

	"dynpos/api"
	"dynpos/consequence"
	"dynpos/plant"
)

func same(t *testing.T, name string, got, want any) {
	t.Helper()
	if g, w := fmt.Sprint(got), fmt.Sprint(want); g != w {
		t.Errorf("%s: %s, not %s", name, g, w)
	}
}

func part(kind, number int) api.Part { return api.Part{Kind: kind, Number: number} }

// ship has two buses with a closed tie (0), a generator (breakers 1, 2) and a main thruster of 100 kN (consumers 0 and 1, breakers 3 and 4) at each, an auxiliary that cools the second generator, and one that stops nothing.
func ship() (api.Vessel, api.Plant) {
	main := api.Thruster{Kind: api.KindMain, Station: api.StationStern, Max: 100, Cost: 5}
	v := api.Vessel{
		Ship: api.Ship{Bow: 40, Stern: 60, Thrusters: []api.Thruster{main, main}},
		Board: api.Board{Buses: 2, Breakers: []api.Breaker{{Kind: api.BreakerTie, A: 0, B: 1}, {Kind: api.BreakerSource, A: 0, B: 0}, {Kind: api.BreakerSource, A: 1, B: 1}, {Kind: api.BreakerConsumer, A: 0, B: 0}, {Kind: api.BreakerConsumer, A: 1, B: 1}},
			Sources: []api.Source{{Rating: 100}, {Rating: 100}}, Consumers: []api.Consumer{{Load: 50}, {Load: 50, Thruster: 1}}, Phase: 50, Frequency: 20},
		Table: api.Table{Start: 80, Stop: 40, Delay: 5},
		Design: api.Design{
			Parts: []api.Part{part(1, 0), part(1, 1), part(3, 0), part(3, 1), part(5, 0), part(9, 0), part(9, 1)},
			Links: []api.Link{{From: part(9, 0), To: part(1, 1)}, {From: part(9, 0), To: part(5, 0)}},
		},
	}
	p, _ := plant.New(v.Board, v.Table)
	for i := range p.Power.Closed {
		p.Power.Closed[i] = true
	}
	p.Power.Sources[0].State, p.Power.Sources[1].State = api.SourceReady, api.SourceReady
	return v, p
}

func against(surge int) api.Force { return api.Force{Surge: -surge} }

func TestNow(t *testing.T) {
	v, p := ship()
	p.Power.Broken = []api.Part{part(2, 3)}
	same(t, "Now", consequence.Now(v.Design, p, []api.Part{part(9, 0)}), []api.Part{part(1, 1), part(2, 3), part(5, 0), part(9, 0)})
	v.Design.Parts = nil
	same(t, "a wrong design", consequence.Now(v.Design, p, []api.Part{part(9, 0)}), []api.Part{part(2, 3), part(9, 0)})
}

func TestAfter(t *testing.T) {
	v, p := ship()
	q, able, e := consequence.After(v, p, nil, nil)
	same(t, "whole", []any{q.Power, able, e}, []any{p.Power, []int{100, 100}, api.OK})
	q, able, e = consequence.After(v, p, nil, []api.Part{part(9, 0)})
	same(t, "the cooling", []any{q.Power.Broken, q.Power.Closed, able, e}, []any{[]api.Part{part(1, 1)}, []bool{true, true, false, true, true}, []int{0, 100}, api.OK})
	q, able, _ = consequence.After(v, p, []api.Part{part(5, 1)}, []api.Part{part(3, 0)})
	same(t, "a bus and a thruster", []any{q.Power.Broken, q.Power.Closed, able}, []any{[]api.Part{part(3, 0)}, []bool{false, false, true, false, true}, []int{0, 0}})
	q, able, _ = consequence.After(v, p, []api.Part{part(9, 0)}, nil)
	same(t, "what is broken already", []any{q.Power.Broken, able}, []any{[]api.Part{part(1, 1)}, []int{0, 100}})
	p.Power.Broken = []api.Part{part(1, 1)}
	p.Events = []api.Event{{Time: 7}}
	q, _, _ = consequence.After(v, p, nil, []api.Part{part(1, 1), part(4, 9)})
	same(t, "acts with errors", []any{q.Events, q.Power.Closed[2]}, []any{[]api.Event{{Time: 7}, {Act: api.Act{Kind: api.ActFail, Unit: 9, Value: 4}, Err: api.ErrUnknown}}, true})
	same(t, "the argument", len(p.Events), 1)
}

func TestAfterFailsInOrder(t *testing.T) {
	v, p := ship()
	q, _, _ := consequence.After(v, p, []api.Part{part(4, 0), part(1, 0)}, []api.Part{part(3, 1), part(9, 0), part(2, 0)})
	var acts []api.Act
	for _, x := range q.Events {
		if x.Act.Kind == api.ActFail {
			acts = append(acts, x.Act)
		}
	}
	fail := func(kind, number int) api.Act { return api.Act{Kind: api.ActFail, Unit: number, Value: kind} }
	same(t, "acts", acts, []api.Act{fail(1, 0), fail(1, 1), fail(2, 0), fail(3, 1), fail(4, 0)})
}

// wrong has changes of the vessel and the plant with the errors that they lead to, in the order in which these apply.
var wrong = []struct {
	change func(v *api.Vessel, p *api.Plant)
	want   api.Errno
}{
	{func(v *api.Vessel, p *api.Plant) { v.Ship.Bow = 201 }, api.ErrRange},
	{func(v *api.Vessel, p *api.Plant) {
		v.Design.Parts = v.Design.Parts[1:]
		v.Design.Links[0].From = part(9, 9)
	}, api.ErrDesign},
	{func(v *api.Vessel, p *api.Plant) { p.Rosters = nil }, api.ErrShape},
	{func(v *api.Vessel, p *api.Plant) { v.Board.Buses = 0 }, api.ErrLimit},
}

func TestErrors(t *testing.T) {
	v, p := ship()
	for i, x := range wrong {
		x.change(&v, &p)
		q, able, e := consequence.After(v, p, nil, []api.Part{part(1, 0)})
		same(t, fmt.Sprint(i), []any{q, able, e}, []any{api.Plant{}, []int{}, x.want})
		l, e := consequence.Analyse(v, p, nil, api.Force{})
		same(t, fmt.Sprint(i), []any{l, e, consequence.Holds(v, p, nil, api.Force{}), consequence.Safe(v, p, nil, api.Force{})}, []any{[]int{}, x.want, false, false})
		k, bad, ok := consequence.Transfer(v, p, nil, nil, api.Force{})
		same(t, fmt.Sprint(i), []any{k, bad, ok}, []any{0, api.Part{}, false})
	}
}

func TestHoldsAndSafe(t *testing.T) {
	v, p := ship()
	for _, x := range []struct {
		surge       int
		broken      []api.Part
		holds, safe bool
	}{
		{0, nil, true, true}, {100, nil, true, true}, {101, nil, true, false}, {200, nil, true, false}, {201, nil, false, false}, {100, []api.Part{part(5, 0)}, true, false}, {101, []api.Part{part(5, 0)}, false, false}, {0, []api.Part{part(9, 0)}, true, true},
	} {
		same(t, fmt.Sprint(x), []bool{consequence.Holds(v, p, x.broken, against(x.surge)), consequence.Safe(v, p, x.broken, against(x.surge))}, []bool{x.holds, x.safe})
	}
}

func TestAnalyse(t *testing.T) {
	v, p := ship()
	finding := func(kind, number int, holds bool) api.Finding {
		return api.Finding{Part: part(kind, number), Holds: holds}
	}
	l, e := consequence.Analyse(v, p, nil, against(150))
	same(t, "150", []any{l, e}, []any{[]api.Finding{finding(1, 0, true), finding(1, 1, true), finding(3, 0, false), finding(3, 1, false), finding(5, 0, false), finding(9, 0, false), finding(9, 1, true)}, api.OK})
	l, _ = consequence.Analyse(v, p, []api.Part{part(9, 0), part(3, 0)}, against(100))
	same(t, "without what is broken now", l, []api.Finding{finding(1, 0, false), finding(3, 1, false), finding(9, 1, false)})
	v.Board.Breakers[4].A = 0
	l, _ = consequence.Analyse(v, p, nil, against(100))
	same(t, "both thrusters on one bus", l[:4], []api.Finding{finding(1, 0, true), finding(1, 1, true), finding(3, 0, false), finding(3, 1, true)})
	v.Design = api.Design{}
	l, e = consequence.Analyse(v, p, nil, against(300))
	same(t, "nothing can fail", []any{l, e, consequence.Safe(v, p, nil, against(200)), consequence.Safe(v, p, nil, against(201))}, []any{[]int{}, api.OK, true, false})
}

func TestTransfer(t *testing.T) {
	v, p := ship()
	v.Design.Parts, v.Design.Links = []api.Part{part(1, 0), part(1, 1)}, nil
	open := func(i int) api.Act { return api.Act{Kind: api.ActOpen, Unit: i} }
	wait := api.Act{Kind: api.ActWait}
	for i, x := range []struct {
		surge int
		acts  []api.Act
		k     int
		part  api.Part
		ok    bool
	}{
		{150, nil, 0, api.Part{}, false}, {250, []api.Act{open(0)}, 0, api.Part{}, true}, {150, []api.Act{wait, open(99), open(0), open(1)}, 3, part(1, 0), true}, {100, []api.Act{open(0), open(4)}, 2, part(1, 0), true}, {150, []api.Act{open(2), open(2)}, 1, part(1, 0), true}, {150, []api.Act{open(4), open(0)}, 1, api.Part{}, true}, {100, []api.Act{open(4)}, 0, api.Part{}, false}, {150, make([]api.Act, 201), 0, api.Part{}, false}, {250, make([]api.Act, 201), 0, api.Part{}, false}, {250, make([]api.Act, 200), 0, api.Part{}, true},
	} {
		k, bad, ok := consequence.Transfer(v, p, nil, x.acts, against(x.surge))
		same(t, fmt.Sprint(i), []any{k, bad, ok}, []any{x.k, x.part, x.ok})
	}
	k, bad, ok := consequence.Transfer(v, p, []api.Part{part(5, 0)}, []api.Act{open(0)}, against(100))
	same(t, "a broken thruster", []any{k, bad, ok}, []any{1, part(1, 1), true})
}
