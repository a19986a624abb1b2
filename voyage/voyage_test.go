package voyage_test

import (
	"fmt"
	"testing"

	"dynpos/allocate"
	"dynpos/api"
	"dynpos/control"
	"dynpos/example"
	"dynpos/logbook"
	"dynpos/plant"
	"dynpos/restore"
	"dynpos/voyage"
)

func same(t *testing.T, name string, got, want any) {
	t.Helper()
	if g, w := fmt.Sprint(got), fmt.Sprint(want); g != w {
		t.Errorf("%s: %s, not %s", name, g, w)
	}
}

func part(kind, number int) api.Part { return api.Part{Kind: kind, Number: number} }

// lit returns the state of the example ship with both generators connected.
func lit(t *testing.T, v api.Vessel) api.State {
	t.Helper()
	s, e := voyage.New(v)
	if e != api.OK {
		t.Fatalf("New: error %d", e)
	}
	plan, _ := restore.Plan(v.Board, s.Plant.Power)
	s.Plant.Power, s.Plant.Time, _, e = restore.Run(v.Board, s.Plant.Power, 0, plan)
	if e != api.OK {
		t.Fatalf("the plan: error %d", e)
	}
	s.Estimate.Time = s.Plant.Time
	return s
}

func TestCheck(t *testing.T) {
	v := example.Vessel()
	same(t, "the example", voyage.Check(v), api.OK)
	edge := example.Vessel()
	edge.Target.Heading, edge.Delay, edge.Target.Place = 3599, 600, api.Point{X: 100000000, Y: -100000000}
	edge.Design.Parts = append(edge.Design.Parts, part(9, 63))
	same(t, "edges", voyage.Check(edge), api.OK)
	edge.Delay = 0
	same(t, "no delay", voyage.Check(edge), api.OK)
	// Each change makes an error that comes before those of the changes before it.
	for i, x := range []struct {
		change func(v *api.Vessel)
		want   api.Errno
	}{
		{func(v *api.Vessel) { v.Delay = 601 }, api.ErrVessel}, {func(v *api.Vessel) { v.Sequence.Stages = nil }, api.ErrSequence}, {func(v *api.Vessel) { v.Operation.Circle.Yellow = 9999 }, api.ErrCircle}, {func(v *api.Vessel) { v.Operation.Name = "" }, api.ErrOperation}, {func(v *api.Vessel) { v.Gains.Near = -1 }, api.ErrGains}, {func(v *api.Vessel) { v.References = make([]api.Reference, 9) }, api.ErrLimit}, {func(v *api.Vessel) { v.Design.Parts = v.Design.Parts[1:] }, api.ErrDesign}, {func(v *api.Vessel) { v.Table.Start = 101 }, api.ErrRange},
		{func(v *api.Vessel) { v.Board.Phase = -1 }, api.ErrPlant}, {func(v *api.Vessel) { v.Ship.Bow = 201 }, api.ErrRange}, {func(v *api.Vessel) { v.Hull.Mass = 0 }, api.ErrHull},
	} {
		x.change(&v)
		s, e := voyage.New(v)
		same(t, fmt.Sprint(i), []any{voyage.Check(v), s, e, voyage.Valid(v, s)}, []any{x.want, api.State{}, x.want, false})
		s, e = voyage.Tick(v, api.State{}, api.Input{Heading: -1})
		same(t, fmt.Sprint(i), []any{s, e}, []any{api.State{}, x.want})
	}
}

func TestCheckOfTheVessel(t *testing.T) {
	for i, change := range []func(v *api.Vessel){
		func(v *api.Vessel) { v.Delay = -1 }, func(v *api.Vessel) { v.Delay = 601 }, func(v *api.Vessel) { v.Target.Place.X = 100000001 }, func(v *api.Vessel) { v.Target.Heading = -1 }, func(v *api.Vessel) { v.Target.Heading = 3600 }, func(v *api.Vessel) { v.Board.Consumers[4].Thruster = 4 },
		func(v *api.Vessel) { v.Design.Parts = []api.Part{part(1, 2)} }, func(v *api.Vessel) { v.Design.Parts = []api.Part{part(2, 9)} }, func(v *api.Vessel) { v.Design.Parts = []api.Part{part(3, 2)} }, func(v *api.Vessel) { v.Design.Parts = []api.Part{part(4, 5)} }, func(v *api.Vessel) { v.Design.Parts = []api.Part{part(5, 4)} }, func(v *api.Vessel) { v.Design.Parts = []api.Part{part(6, 3)} },
	} {
		v := example.Vessel()
		v.Design.Links, v.Design.Groups = nil, nil
		change(&v)
		same(t, fmt.Sprint(i), voyage.Check(v), api.ErrVessel)
	}
	v := example.Vessel()
	v.Design = api.Design{Parts: []api.Part{part(1, 1), part(2, 8), part(3, 1), part(4, 4), part(5, 3), part(6, 2), part(7, 63), part(8, 63), part(9, 63)}}
	same(t, "the last ones", voyage.Check(v), api.OK)
}

func TestNew(t *testing.T) {
	v := example.Vessel()
	s, e := voyage.New(v)
	p, _ := plant.New(v.Board, v.Table)
	entries := []api.Entry{{Kind: api.EntryStatus, Words: []int{1}}, {Kind: api.EntryEstimate, Words: []int{0}}, {Kind: api.EntryOperation, Words: []int{0}}}
	want := api.State{Plant: p, Tracks: make([]api.Track, 3), Thrusts: make([]api.Thrust, 4), Class: api.Class{Level: 1, Better: -1}, Book: api.Book{Entries: entries, Sum: s.Book.Sum}}
	same(t, "New", []any{s, e}, []any{want, api.OK})
	same(t, "valid", []any{voyage.Valid(v, s), logbook.Check(s.Book)}, []any{true, api.OK})
}

func TestValid(t *testing.T) {
	v := example.Vessel()
	for i, change := range []func(s *api.State){
		func(s *api.State) { s.Plant.Rosters = nil }, func(s *api.State) { s.Broken = []api.Part{part(4, 0)} }, func(s *api.State) { s.Broken = []api.Part{part(9, 1), part(5, 0)} }, func(s *api.State) { s.Broken = []api.Part{part(10, 1)} }, func(s *api.State) { s.Tracks = s.Tracks[1:] }, func(s *api.State) { s.Thrusts = s.Thrusts[1:] }, func(s *api.State) { s.Thrusts[3].X = 5001 }, func(s *api.State) { s.Thrusts[0].Y = -5001 }, func(s *api.State) { s.Thrusts[3].X = -5001 }, func(s *api.State) { s.Thrusts[0].Y = 5001 },
		func(s *api.State) { s.Estimate.Time++ }, func(s *api.State) { s.Estimate.State = 3 }, func(s *api.State) { s.Estimate.State = -1 }, func(s *api.State) { s.Estimate.Point.X = 100000001 }, func(s *api.State) { s.Estimate.Bound = -1 }, func(s *api.State) { s.Estimate.Bound = 200000001 }, func(s *api.State) { s.Estimate.State = 1 }, func(s *api.State) { s.Keeper.SumX = 10001 },
		func(s *api.State) { s.Class.Better = 99 }, func(s *api.State) { s.Class.Level = 2 }, func(s *api.State) { s.Alarms = []api.Alarm{{Number: 1, Urgency: 1, State: 1, Since: 99}} }, func(s *api.State) { s.Operation = 6 }, func(s *api.State) { s.Operation = -1 }, func(s *api.State) { s.Operation = 1 }, func(s *api.State) { s.Operation = 4 },
		func(s *api.State) { s.Progress.Time = 1 }, func(s *api.State) { s.Progress.Works = make([]api.Work, 3) }, func(s *api.State) { s.Book.Sum++ }, func(s *api.State) { s.Book = logbook.New() }, func(s *api.State) {
			s.Book, _ = logbook.Append(s.Book, api.Entry{Time: 99, Kind: api.EntryAlarm, Words: []int{1, 1}})
		}, func(s *api.State) {
			s.Book, _ = logbook.Append(s.Book, api.Entry{Time: 1, Kind: api.EntryStatus, Words: []int{2}})
		}, func(s *api.State) {
			s.Book, _ = logbook.Append(s.Book, api.Entry{Time: 1, Kind: api.EntryOperation, Words: []int{2}})
		},
	} {
		s := lit(t, v)
		change(&s)
		same(t, fmt.Sprint(i), voyage.Valid(v, s), false)
		_, e := voyage.Tick(v, s, api.Input{Heading: -1})
		same(t, fmt.Sprint(i), e, api.ErrVessel)
	}
	s := lit(t, v)
	s.Broken, s.Thrusts[0], s.Alarms = []api.Part{part(5, 0), part(9, 63)}, api.Thrust{X: 5000, Y: -5000}, []api.Alarm{{Number: 1, Urgency: 1, State: 1, Since: s.Plant.Time}}
	s.Estimate.Bound, s.Keeper.SumX, s.Class.Better = 200000000, -10000, s.Plant.Time
	same(t, "edges", voyage.Valid(v, s), true)
	s.Operation, s.Progress = api.OperationLeft, api.Progress{Time: s.Plant.Time, Works: []api.Work{{State: 2, Since: 0, Tries: 1}, {State: 2, Since: 0, Tries: 1}, {State: 1, Since: s.Plant.Time, Tries: 1}}}
	s.Book, _ = logbook.Append(s.Book, api.Entry{Time: 2, Kind: api.EntryOperation, Words: []int{5}})
	same(t, "with a progress", voyage.Valid(v, s), true)
	s.Plant.Time, s.Estimate.Time = 9, 9
	s.Progress = api.Progress{Time: 9, Works: []api.Work{{State: 2, Tries: 1}, {State: 2, Tries: 1}, {State: 2, Tries: 1}}}
	same(t, "done", voyage.Valid(v, s), true)
	s.Progress.Time = 8
	same(t, "with an old progress", voyage.Valid(v, s), false)
	s.Progress.Time, s.Progress.Works[0].Tries = 9, 0
	same(t, "with a wrong progress", voyage.Valid(v, s), false)
}

func TestActs(t *testing.T) {
	v := example.Vessel()
	fail := func(kind, unit int) api.Act { return api.Act{Kind: api.ActFail, Unit: unit, Value: kind} }
	mend := func(kind, unit int) api.Act { return api.Act{Kind: api.ActMend, Unit: unit, Value: kind} }
	begin := func(kind, number int) api.Fault {
		return api.Fault{Kind: api.FaultBegin, Part: part(kind, number)}
	}
	end := func(kind, number int) api.Fault { return api.Fault{Kind: api.FaultEnd, Part: part(kind, number)} }
	for i, x := range []struct {
		plant, broken []api.Part
		faults        []api.Fault
		acts          []api.Act
		parts         []api.Part
	}{
		{nil, nil, nil, nil, nil},
		{nil, nil, []api.Fault{begin(3, 1), begin(5, 2), begin(9, 0)}, []api.Act{fail(3, 1), fail(1, 0)}, []api.Part{part(5, 2), part(9, 0)}},
		{nil, nil, []api.Fault{begin(9, 1), begin(1, 1), begin(9, 0)}, []api.Act{fail(1, 1), fail(1, 0)}, []api.Part{part(9, 0), part(9, 1)}},
		{nil, nil, []api.Fault{begin(9, 0), end(9, 0), begin(2, 3), end(2, 3)}, []api.Act{fail(2, 3), mend(2, 3)}, nil},
		{[]api.Part{part(1, 0)}, []api.Part{part(9, 0)}, nil, nil, []api.Part{part(9, 0)}},
		{[]api.Part{part(1, 0)}, []api.Part{part(9, 0)}, []api.Fault{end(1, 0)}, []api.Act{mend(1, 0), fail(1, 0)}, []api.Part{part(9, 0)}},
		{[]api.Part{part(1, 0)}, []api.Part{part(9, 0)}, []api.Fault{end(9, 0)}, nil, nil},
		{[]api.Part{part(1, 0)}, nil, []api.Fault{begin(1, 0), end(4, 2)}, []api.Act{fail(1, 0), mend(4, 2)}, nil},
		{nil, []api.Part{part(6, 1), part(7, 0)}, []api.Fault{end(7, 0), end(8, 0), begin(6, 1)}, nil, []api.Part{part(6, 1)}},
		{nil, nil, []api.Fault{begin(0, 1), begin(10, 1), begin(3, 64), begin(3, -1), {Kind: 3, Part: part(3, 1)}, {Time: -1, Kind: 1, Part: part(3, 1)}, {Time: api.MaxTime + 1, Kind: 1, Part: part(3, 1)}, {Time: api.MaxTime, Kind: 1, Part: part(3, 0)}}, []api.Act{fail(3, 0)}, nil},
		{nil, []api.Part{part(9, 0)}, nil, []api.Act{fail(1, 0)}, []api.Part{part(9, 0)}},
	} {
		s := lit(t, v)
		s.Plant.Power.Broken, s.Broken = x.plant, x.broken
		acts, parts := voyage.Acts(v, s, x.faults)
		same(t, fmt.Sprint(i), []any{acts, parts}, []any{append([]api.Act{}, x.acts...), append([]api.Part{}, x.parts...)})
	}
}

func TestDemand(t *testing.T) {
	v := example.Vessel()
	s := lit(t, v)
	load := api.Force{Surge: 30, Sway: -20, Yaw: 160}
	d, k := voyage.Demand(v, s, load, 300)
	want, _ := allocate.Stations(v.Ship, api.Force{Surge: -30, Sway: 20, Yaw: -160})
	same(t, "nothing is known", []any{d, k}, []any{want, s.Keeper})
	s.Estimate.State, s.Estimate.Point = api.EstimateLost, api.Point{X: 0, Y: 0}
	f, after, _ := control.Demand(v.Gains, s.Keeper, s.Estimate.Point, 100, v.Target)
	want, _ = allocate.Stations(v.Ship, api.Force{Surge: f.Surge - 30, Sway: f.Sway + 20, Yaw: f.Yaw - 160})
	d, k = voyage.Demand(v, s, load, 100)
	same(t, "lost", []any{d, k, f != api.Force{}}, []any{want, after, true})
	d, k = voyage.Demand(v, s, load, 3600)
	want, _ = allocate.Stations(v.Ship, api.Force{Surge: -30, Sway: 20, Yaw: -160})
	same(t, "an error of control", []any{d, k}, []any{want, s.Keeper})
	s.Estimate.State = api.EstimateNone
	d, _ = voyage.Demand(v, s, api.Force{Surge: -9000, Sway: 9000}, 0)
	same(t, "cut", d, api.Demand{Surge: 5000, Bow: -2500, Stern: -2500})
	d, _ = voyage.Demand(v, s, api.Force{Surge: -1000000, Sway: 1000000}, 0)
	same(t, "the greatest loads", d, api.Demand{Surge: 5000, Bow: -2500, Stern: -2500})
	d, _ = voyage.Demand(v, s, api.Force{Yaw: 600000}, 0)
	same(t, "yaw is cut", d, api.Demand{Bow: -6250, Stern: 6250})
	v.Ship.Bow = 201
	d, _ = voyage.Demand(v, s, load, 0)
	same(t, "an error of allocate", d, api.Demand{})
}

// placed returns the state of the example ship with good fixes.
func placed(t *testing.T, v api.Vessel, references ...int) api.State {
	t.Helper()
	s := lit(t, v)
	for _, i := range references {
		f := api.Fix{Time: s.Plant.Time, X: 1000, Y: -500, Error: 100}
		s.Tracks[i] = api.Track{Last: f, Good: f, Seen: true, Same: 1, State: api.RefGood}
	}
	s.Estimate.State = api.EstimateGood
	return s
}

func TestJudged(t *testing.T) {
	v := example.Vessel()
	for i, x := range []struct {
		s    api.State
		load api.Force
		want int
	}{
		{placed(t, v, 0, 1), api.Force{Surge: 50}, api.LevelGreen}, {placed(t, v, 1, 2), api.Force{Surge: 50}, api.LevelYellow}, {placed(t, v), api.Force{Surge: 50}, api.LevelYellow}, {lit(t, v), api.Force{Surge: 50}, api.LevelRed}, {placed(t, v, 0, 1), api.Force{Surge: 600}, api.LevelYellow}, {placed(t, v, 0, 1), api.Force{Surge: 900}, api.LevelRed},
	} {
		same(t, fmt.Sprint(i), voyage.Judged(v, x.s, x.load), x.want)
	}
	broken := placed(t, v, 0, 1)
	broken.Broken = []api.Part{part(5, 0)}
	same(t, "a broken thruster", voyage.Judged(v, broken, api.Force{Surge: 50, Sway: 190}), api.LevelYellow)
	v.Operation.Drift = 1001
	same(t, "no vote", voyage.Judged(v, placed(t, example.Vessel(), 0, 1), api.Force{}), api.LevelYellow)
}

func TestCauses(t *testing.T) {
	v := example.Vessel()
	good := placed(t, v, 0, 1)
	good.Class.Level = api.LevelGreen
	dark, _ := voyage.New(v)
	one := func(number, urgency int) api.Alarm { return api.Alarm{Number: number, Urgency: urgency} }
	yellow := good
	yellow.Class.Level = api.LevelYellow
	broken := good
	broken.Broken = []api.Part{part(9, 2)}
	failed := good
	failed.Plant.Power.Broken = []api.Part{part(2, 0)}
	for i, x := range []struct {
		s       api.State
		zone    int
		missing api.Demand
		want    []api.Alarm
	}{
		{good, api.ZoneInside, api.Demand{}, nil}, {dark, api.ZoneRed, api.Demand{Stern: -1}, []api.Alarm{one(1, 1), one(3, 1), one(4, 1), one(6, 1), one(7, 2)}}, {yellow, api.ZoneYellow, api.Demand{}, []api.Alarm{one(2, 2), one(5, 3)}}, {broken, api.ZoneInside, api.Demand{Surge: 5}, []api.Alarm{one(7, 2), one(8, 4)}}, {failed, api.ZoneInside, api.Demand{}, []api.Alarm{one(8, 4)}},
	} {
		same(t, fmt.Sprint(i), voyage.Causes(v, x.s, x.zone, x.missing), append([]api.Alarm{}, x.want...))
	}
}

func TestCausesOfAWildState(t *testing.T) {
	same(t, "nothing", len(voyage.Causes(api.Vessel{}, api.State{}, 0, api.Demand{})), 1)
	same(t, "nothing holds", voyage.Judged(api.Vessel{}, api.State{}, api.Force{}), api.LevelRed)
	acts, parts := voyage.Acts(api.Vessel{}, api.State{Broken: []api.Part{part(-5, 9), part(9, 0)}}, nil)
	same(t, "Acts", []any{acts, parts}, []any{[]int{}, []api.Part{part(9, 0)}})
	same(t, "no vessel", voyage.Check(api.Vessel{}), api.ErrHull)
}
