package drill_test

import (
	"fmt"
	"math"
	"math/rand"
	"slices"
	"testing"

	"dynpos/api"
	"dynpos/drill"
	"dynpos/example"
	"dynpos/faults"
	"dynpos/restore"
	"dynpos/voyage"
)

func same(t *testing.T, name string, got, want any) {
	t.Helper()
	if g, w := fmt.Sprint(got), fmt.Sprint(want); g != w {
		t.Errorf("%s: %s, not %s", name, g, w)
	}
}

func begin(time, kind, number int) api.Fault {
	return api.Fault{Time: time, Kind: api.FaultBegin, Part: api.Part{Kind: kind, Number: number}}
}

func end(time, kind, number int) api.Fault {
	return api.Fault{Time: time, Kind: api.FaultEnd, Part: api.Part{Kind: kind, Number: number}}
}

// breeze is a drill in a light wind.
func breeze(ticks int, l ...api.Fault) api.Drill {
	return api.Drill{Faults: l, Weather: api.Weather{Wind: api.Flow{From: 300, Speed: 700}}, Ticks: ticks}
}

func TestCheck(t *testing.T) {
	v := example.Vessel()
	same(t, "valid", []api.Errno{drill.Check(v, breeze(1)), drill.Check(v, breeze(60, begin(0, 1, 0), end(99, 1, 0)))}, []api.Errno{0, 0})
	wrong := example.Vessel()
	wrong.Delay = -1
	gale := breeze(1)
	gale.Weather.Wave.Speed = -1
	for i, x := range []struct {
		v    api.Vessel
		d    api.Drill
		want api.Errno
	}{{wrong, breeze(0, end(0, 1, 0)), api.ErrVessel}, {v, breeze(0, end(0, 1, 0)), api.ErrScript}, {v, breeze(0, make([]api.Fault, 25)...), api.ErrLimit}, {v, breeze(0), api.ErrRange}, {v, breeze(61), api.ErrRange}, {v, breeze(math.MinInt), api.ErrRange}, {v, gale, api.ErrRange}} {
		levels, s, e := drill.Run(x.v, x.d)
		least, f := drill.Least(x.v, x.d)
		same(t, fmt.Sprint(i), []any{drill.Check(x.v, x.d), levels, s, e, least, f, drill.Minimal(x.v, x.d), drill.Inputs(x.v, s, x.d)}, []any{x.want, []int{}, api.State{}, x.want, api.Drill{}, x.want, false, []int{}})
	}
}

func TestReady(t *testing.T) {
	v := example.Vessel()
	s, e := drill.Ready(v)
	fresh, _ := voyage.New(v)
	plan, _ := restore.Plan(v.Board, fresh.Plant.Power)
	want := fresh
	want.Plant.Power, want.Plant.Time, _, _ = restore.Run(v.Board, fresh.Plant.Power, 0, plan)
	want.Estimate.Time = want.Plant.Time
	same(t, "Ready", []any{s, e, s.Plant.Time, voyage.Valid(v, s), restore.Restored(v.Board, s.Plant.Power)}, []any{want, api.OK, 2, true, true})
	dark := example.Vessel()
	dark.Board.Sources, dark.Design = nil, api.Design{}
	var breakers []api.Breaker
	for _, k := range dark.Board.Breakers {
		if k.Kind != api.BreakerSource {
			breakers = append(breakers, k)
		}
	}
	dark.Board.Breakers = breakers
	s, e = drill.Ready(dark)
	fresh, _ = voyage.New(dark)
	same(t, "without generators", []any{s, e}, []any{fresh, api.OK})
	v.Delay = -1
	s, e = drill.Ready(v)
	same(t, "a wrong vessel", []any{s, e}, []any{api.State{}, api.ErrVessel})
}

func TestInputs(t *testing.T) {
	v := example.Vessel()
	s := api.State{}
	s.Plant.Time = 40
	d := breeze(3, begin(0, 1, 0), begin(2, 5, 1), begin(2, 9, 2), begin(3, 9, 1))
	l := drill.Inputs(v, s, d)
	same(t, "length", len(l), 3)
	for i, in := range l {
		var sights []api.Sight
		for r := range 3 {
			sights = append(sights, api.Sight{Reference: r, Fix: api.Fix{Time: 41 + i, X: 1000, Y: -500, Error: 100}})
		}
		want := api.Input{Weather: d.Weather, Heading: 300, Sights: sights, Faults: [][]api.Fault{d.Faults[:1], nil, d.Faults[1:3]}[i]}
		same(t, fmt.Sprint(i), in, want)
	}
}

func TestRun(t *testing.T) {
	v := example.Vessel()
	d := breeze(9, begin(6, 9, 0), begin(7, 5, 1))
	levels, s, e := drill.Run(v, d)
	ready, _ := drill.Ready(v)
	last, _ := voyage.Run(v, ready, drill.Inputs(v, ready, d))
	same(t, "Run", []any{levels, s, e}, []any{[]int{1, 1, 2, 2, 3, 3, 2, 2, 2}, last, api.OK})
}

// fragile is the example ship in a gale that it holds with all thrusters only, and of which one breaks again and again; much falls with the first auxiliary.
func fragile() (api.Vessel, api.Drill) {
	v := example.Vessel()
	v.Delay, v.Design = 0, api.Design{Parts: []api.Part{{Kind: api.PartThruster}}}
	first := api.Part{Kind: api.PartAuxiliary}
	for kind, n := range [10]int{api.PartController: 19, api.PartAuxiliary: 20} {
		for i := range n {
			p := api.Part{Kind: kind, Number: i}
			v.Design.Parts = append(v.Design.Parts, p)
			if p != first {
				v.Design.Links = append(v.Design.Links, api.Link{From: first, To: p})
			}
		}
	}
	d := breeze(60, begin(0, 9, 0))
	d.Weather.Wind.Speed = 2650
	for i := range 11 {
		d.Faults = append(d.Faults, begin(2*i+3, 5, 0), end(2*i+4, 5, 0))
	}
	d.Faults = append(d.Faults, begin(30, 5, 0))
	return v, d
}

func TestTooMuchToSay(t *testing.T) {
	v, d := fragile()
	levels, s, e := drill.Run(v, d)
	least, f := drill.Least(v, d)
	same(t, "the book is too short", []any{levels, s, e, least, f, drill.Minimal(v, d)}, []any{[]int{}, api.State{}, api.ErrLimit, api.Drill{}, api.ErrLimit, false})
	d.Ticks = 12
	_, _, e = drill.Run(v, d)
	same(t, "a short drill", e, api.OK)
}

func TestWorst(t *testing.T) {
	for _, x := range []struct {
		levels []int
		want   int
	}{{nil, 0}, {[]int{1, 1, 2, 3, 3}, 3}, {[]int{1, 2, 3, 2, 3}, 2}, {[]int{1, 3, 1, 2}, 1}, {[]int{2, 1, 2}, 1}, {[]int{2, 2}, 2}, {[]int{3}, 3}} {
		same(t, fmt.Sprint(x.levels), drill.Worst(x.levels), x.want)
	}
}

func TestLeast(t *testing.T) {
	v := example.Vessel()
	for i, x := range []struct{ d, want api.Drill }{
		{breeze(9, begin(6, 9, 0), begin(6, 9, 2)), breeze(9, begin(6, 9, 0))},
		{breeze(9, begin(6, 5, 1), begin(6, 9, 2)), breeze(9)},
		{breeze(9, begin(6, 1, 0), begin(6, 3, 0), begin(6, 9, 0)), breeze(9, begin(6, 9, 0))},
		{breeze(9, begin(6, 5, 0), begin(7, 5, 1), begin(7, 5, 2), begin(7, 5, 3), begin(8, 9, 2)), breeze(9, begin(6, 5, 0), begin(7, 5, 1), begin(7, 5, 2), begin(7, 5, 3))},
		{breeze(9, begin(5, 9, 0), begin(6, 9, 2), end(8, 9, 0)), breeze(9, begin(5, 9, 0), end(8, 9, 0))},
		{breeze(9), breeze(9)},
	} {
		got, e := drill.Least(v, x.d)
		same(t, fmt.Sprint(i), []any{got, e, drill.Minimal(v, got), drill.Minimal(v, x.d)}, []any{x.want, api.OK, true, len(x.want.Faults) == len(x.d.Faults)})
		again, _ := drill.Least(v, got)
		same(t, fmt.Sprint(i), again, got)
	}
}

func TestManyDrills(t *testing.T) {
	r := rand.New(rand.NewSource(30))
	v := example.Vessel()
	for range 25 {
		var l []api.Fault
		for range 1 + r.Intn(6) {
			l = append(l, api.Fault{Time: r.Intn(10), Kind: 1 + r.Intn(2), Part: v.Design.Parts[r.Intn(len(v.Design.Parts))]})
		}
		l, _ = faults.Normal(l)
		d := breeze(12, l...)
		d.Weather.Wind.Speed = r.Intn(2500)
		levels, _, e := drill.Run(v, d)
		if e != api.OK {
			continue
		}
		least, e := drill.Least(v, d)
		behind, _, _ := drill.Run(v, least)
		same(t, fmt.Sprint(d), []any{e, drill.Worst(behind), drill.Minimal(v, least)}, []any{api.OK, drill.Worst(levels), true})
		for _, f := range least.Faults {
			if !slices.Contains(d.Faults, f) {
				t.Errorf("%v is not among the faults of the drill", f)
			}
		}
		if drill.Minimal(v, d) != (fmt.Sprint(least.Faults) == fmt.Sprint(d.Faults)) {
			t.Errorf("%v: the least one is %v", d, least)
		}
	}
}
