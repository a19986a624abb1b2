package audit_test

import (
	"fmt"
	"math/rand"
	"slices"
	"testing"

	"dynpos/api"
	"dynpos/audit"
	"dynpos/example"
	"dynpos/logbook"
	"dynpos/plant"
	"dynpos/restore"
	"dynpos/voyage"
)

func same(t *testing.T, name string, got, want any) {
	t.Helper()
	if g, w := fmt.Sprint(got), fmt.Sprint(want); g != w {
		t.Errorf("%s: %s, not %s", name, g, w)
	}
}

// calm returns an input with a sight of each reference at the target.
func calm(s api.State) api.Input {
	in := api.Input{Heading: 300, Weather: api.Weather{Wind: api.Flow{From: 300, Speed: 700}}}
	for i := range s.Tracks {
		in.Sights = append(in.Sights, api.Sight{Reference: i, Fix: api.Fix{Time: s.Plant.Time + 1, X: 1000, Y: -500, Error: 100}})
	}
	return in
}

// sail returns the states and inputs of a voyage of the example ship, which becomes green and active.
func sail(t *testing.T, v api.Vessel, ticks int) ([]api.State, []api.Input) {
	t.Helper()
	s, _ := voyage.New(v)
	plan, _ := restore.Plan(v.Board, s.Plant.Power)
	s.Plant.Power, s.Plant.Time, _, _ = restore.Run(v.Board, s.Plant.Power, 0, plan)
	s.Estimate.Time = s.Plant.Time
	states, inputs := []api.State{s}, []api.Input(nil)
	for i := range ticks {
		in := calm(s)
		in.Request = map[int]int{5: api.RequestReady, 6: api.RequestStart}[i]
		next, e := voyage.Tick(v, s, in)
		if e != api.OK {
			t.Fatalf("tick %d: error %d", i, e)
		}
		s = next
		states, inputs = append(states, s), append(inputs, in)
	}
	return states, inputs
}

// say makes the book of a state say its level, its estimate and its operation.
func say(s *api.State) {
	for _, x := range [][2]int{{api.EntryStatus, s.Class.Level}, {api.EntryEstimate, s.Estimate.State}, {api.EntryOperation, s.Operation}} {
		if said, _ := logbook.At(s.Book, x[0], s.Plant.Time); said != x[1] {
			s.Book, _ = logbook.Append(s.Book, api.Entry{Time: s.Plant.Time, Kind: x[0], Words: []int{x[1]}})
		}
	}
}

func TestTick(t *testing.T) {
	v := example.Vessel()
	states, inputs := sail(t, v, 9)
	same(t, "what Tick makes", audit.Tick(v, states[8], inputs[8], states[9]), []int{})
	for _, x := range []struct {
		name   string
		change func(v *api.Vessel, s *api.State, in *api.Input, next *api.State)
		want   []int
	}{
		{"a wrong state", func(v *api.Vessel, s *api.State, in *api.Input, next *api.State) { s.Book.Sum++; next.Book.Sum++ }, []int{0}},
		{"a wrong vessel", func(v *api.Vessel, s *api.State, in *api.Input, next *api.State) { v.Delay = -1 }, []int{0}},
		{"a wrong weather", func(v *api.Vessel, s *api.State, in *api.Input, next *api.State) { in.Weather.Wave.From = -1 }, []int{0}},
		{"a wrong heading", func(v *api.Vessel, s *api.State, in *api.Input, next *api.State) { in.Heading = 3600 }, []int{0}},
		{"not valid", func(v *api.Vessel, s *api.State, in *api.Input, next *api.State) { next.Book.Sum++ }, []int{1}},
		{"the book does not say the level", func(v *api.Vessel, s *api.State, in *api.Input, next *api.State) { next.Class.Level = 1 }, []int{1}},
		{"no time has passed", func(v *api.Vessel, s *api.State, in *api.Input, next *api.State) { *next = *s }, []int{1}},
		{"a status that is too good", func(v *api.Vessel, s *api.State, in *api.Input, next *api.State) { in.Weather.Wind.Speed = 2300 }, []int{2}},
		{"an act too many", func(v *api.Vessel, s *api.State, in *api.Input, next *api.State) { in.Acts = make([]api.Act, 201) }, []int{3}},
		{"as many acts as can be", func(v *api.Vessel, s *api.State, in *api.Input, next *api.State) { in.Acts = make([]api.Act, 200) }, nil},
		{"a thrust that is too great", func(v *api.Vessel, s *api.State, in *api.Input, next *api.State) {
			next.Thrusts = []api.Thrust{{X: 120, Y: 160}, {X: 121, Y: 160}, {}, {}}
		}, []int{5}},
		{"a thrust that is just possible", func(v *api.Vessel, s *api.State, in *api.Input, next *api.State) {
			next.Thrusts = []api.Thrust{{X: 120, Y: 160}, {X: -200}, {}, {Y: -200}}
		}, nil},
		{"a thrust of a broken thruster", func(v *api.Vessel, s *api.State, in *api.Input, next *api.State) {
			next.Broken = []api.Part{{Kind: api.PartThruster, Number: 0}}
			next.Thrusts = []api.Thrust{{X: 1}, {}, {}, {}}
		}, []int{5}},
		{"active, but not fit", func(v *api.Vessel, s *api.State, in *api.Input, next *api.State) {
			next.Class.Level = 2
			say(next)
		}, []int{6}},
		{"active, in the yellow zone", func(v *api.Vessel, s *api.State, in *api.Input, next *api.State) { next.Estimate.Bound = 1400 }, []int{6}},
		{"advisory in yellow status", func(v *api.Vessel, s *api.State, in *api.Input, next *api.State) {
			next.Class.Level, next.Operation = 2, api.OperationAdvisory
			say(next)
		}, nil},
		{"advisory in red status", func(v *api.Vessel, s *api.State, in *api.Input, next *api.State) {
			next.Class.Level, next.Operation = 1, api.OperationAdvisory
			say(next)
		}, []int{6}},
		{"advisory in the red zone", func(v *api.Vessel, s *api.State, in *api.Input, next *api.State) {
			next.Estimate.Bound, next.Operation = 1500, api.OperationAdvisory
			say(next)
		}, []int{6}},
		{"an entry is gone", func(v *api.Vessel, s *api.State, in *api.Input, next *api.State) {
			next.Book = logbook.New()
			say(next)
		}, []int{7}},
		{"an entry has changed", func(v *api.Vessel, s *api.State, in *api.Input, next *api.State) {
			l := next.Book.Entries
			next.Book = logbook.New()
			for i, x := range l {
				if i == 4 {
					x.Words = []int{1, 2}
				}
				next.Book, _ = logbook.Append(next.Book, x)
			}
		}, []int{7}},
		{"an alarm is lost", func(v *api.Vessel, s *api.State, in *api.Input, next *api.State) { next.Alarms = next.Alarms[1:] }, []int{8}},
		{"an alarm was seen", func(v *api.Vessel, s *api.State, in *api.Input, next *api.State) {
			next.Alarms, in.Seen = next.Alarms[1:], []int{1}
		}, nil},
		{"a seen alarm is gone", func(v *api.Vessel, s *api.State, in *api.Input, next *api.State) {
			s.Alarms = slices.Clone(s.Alarms)
			s.Alarms[0].State = api.AlarmSeen
			next.Alarms = next.Alarms[1:]
		}, nil},
		{"an alarm that was raised is lost", func(v *api.Vessel, s *api.State, in *api.Input, next *api.State) {
			s.Alarms = []api.Alarm{{Number: 99, Urgency: 1, State: api.AlarmRaised, Since: 1}}
		}, []int{8}},
		{"several rules", func(v *api.Vessel, s *api.State, in *api.Input, next *api.State) {
			in.Weather.Wind.Speed, next.Alarms, next.Thrusts = 2300, nil, []api.Thrust{{}, {X: 201}, {}, {}}
		}, []int{2, 5, 8}},
	} {
		v, s, in, next := v, states[8], inputs[8], states[9]
		x.change(&v, &s, &in, &next)
		same(t, x.name, audit.Tick(v, s, in, next), append([]int{}, x.want...))
	}
}

func TestOverloaded(t *testing.T) {
	v := example.Vessel()
	states, inputs := sail(t, v, 2)
	v.Board.Sources[0].Rating = 449
	same(t, "overloaded", audit.Tick(v, states[1], inputs[1], states[2]), []int{4})
	v.Board.Sources[0].Rating = 450
	same(t, "just not", audit.Tick(v, states[1], inputs[1], states[2]), []int{})
}

func TestPowers(t *testing.T) {
	v := example.Vessel()
	states, _ := sail(t, v, 1)
	in := calm(states[0])
	in.Faults = []api.Fault{{Kind: api.FaultBegin, Part: api.Part{Kind: api.PartAuxiliary}}}
	in.Acts = []api.Act{{Kind: api.ActLimit, Unit: 1, Value: 99}}
	fail := api.Act{Kind: api.ActFail, Unit: 0, Value: api.PartSource}
	want, _ := plant.Trace(v.Board, v.Table, states[0].Plant, []api.Act{fail, in.Acts[0]})
	got, e := audit.Powers(v, states[0], in)
	same(t, "Powers", []any{got, e, len(got) > 5}, []any{want, api.OK, true})
	got, e = audit.Powers(v, api.State{}, in)
	same(t, "no plant", []any{got, e}, []any{[]int{}, api.ErrShape})
}

func TestSound(t *testing.T) {
	v := example.Vessel()
	states, _ := sail(t, v, 1)
	p := states[0].Plant.Power
	tied, apart := p, p
	tied.Closed = slices.Clone(p.Closed)
	tied.Closed[0] = true
	apart.Sources = slices.Clone(p.Sources)
	apart.Sources[1].Phase = 900
	same(t, "Sound", []bool{audit.Sound(v, nil), audit.Sound(v, []api.Power{p, p, tied, p}), audit.Sound(v, []api.Power{apart, tied}), audit.Sound(v, []api.Power{p, apart, tied}), audit.Sound(v, []api.Power{p, {}}), audit.Sound(v, []api.Power{{}})}, []bool{true, true, false, false, false, false})
}

func TestVoyage(t *testing.T) {
	v := example.Vessel()
	states, inputs := sail(t, v, 12)
	n, rules, e := audit.Voyage(v, states, inputs)
	same(t, "what Tick makes", []any{n, rules, e}, []any{-1, []int{}, api.OK})
	claimed := slices.Clone(states)
	claimed[7].Thrusts, claimed[9].Alarms = []api.Thrust{{}, {X: 201}, {}, {}}, nil
	for range 20 {
		n, rules, e = audit.Voyage(v, claimed, inputs)
		same(t, "two wrong states", []any{n, rules, e}, []any{6, []int{5}, api.OK})
	}
	claimed[0].Book.Sum++
	n, rules, _ = audit.Voyage(v, claimed, inputs)
	same(t, "a wrong beginning", []any{n, rules}, []any{0, []int{0}})
	n, rules, e = audit.Voyage(v, states[:1], nil)
	same(t, "no ticks", []any{n, rules, e}, []any{-1, []int{}, api.OK})
	for i, x := range []struct {
		states []api.State
		l      []api.Input
		want   api.Errno
	}{{nil, make([]api.Input, 61), api.ErrLimit}, {states, nil, api.ErrShape}, {nil, nil, api.ErrShape}, {states[:12], inputs, api.ErrShape}} {
		n, rules, e := audit.Voyage(v, x.states, x.l)
		same(t, fmt.Sprint(i), []any{n, rules, e}, []any{0, []int{}, x.want})
	}
	n, rules, e = audit.Voyage(v, make([]api.State, 61), make([]api.Input, 60))
	same(t, "60 ticks", []any{n, rules, e}, []any{0, []int{0}, api.OK})
}

func TestManyTicks(t *testing.T) {
	r := rand.New(rand.NewSource(29))
	v := example.Vessel()
	for range 12 {
		states, inputs := sail(t, v, 7)
		for range 12 {
			s := states[len(states)-1]
			in := calm(s)
			in.Weather.Wind.Speed, in.Request, in.Seen = r.Intn(3000), r.Intn(5), []int{r.Intn(9)}
			if r.Intn(2) == 0 {
				in.Faults = append(in.Faults, api.Fault{Kind: 1 + r.Intn(2), Part: v.Design.Parts[r.Intn(len(v.Design.Parts))]})
			}
			if r.Intn(2) == 0 {
				in.Acts = append(in.Acts, api.Act{Kind: 1 + r.Intn(6), Unit: r.Intn(9), Value: r.Intn(2)})
			}
			next, e := voyage.Tick(v, s, in)
			if e != api.OK {
				break
			}
			states, inputs = append(states, next), append(inputs, in)
		}
		n, rules, e := audit.Voyage(v, states, inputs)
		same(t, "what Tick makes", []any{n, rules, e}, []any{-1, []int{}, api.OK})
	}
}
