package voyage_test

import (
	"fmt"
	"math"
	"math/rand"
	"slices"
	"testing"

	"dynpos/allocate"
	"dynpos/api"
	"dynpos/consequence"
	"dynpos/disconnect"
	"dynpos/example"
	"dynpos/logbook"
	"dynpos/voyage"
	"dynpos/weather"
)

// calm returns an input with a sight of each reference at the target.
func calm(s api.State) api.Input {
	in := api.Input{Heading: 300, Weather: api.Weather{Wind: api.Flow{From: 300, Speed: 700}}}
	for i := range s.Tracks {
		in.Sights = append(in.Sights, api.Sight{Reference: i, Fix: api.Fix{Time: s.Plant.Time + 1, X: 1000, Y: -500, Error: 100}})
	}
	return in
}

// step makes a tick, whose state must be valid.
func step(t *testing.T, v api.Vessel, s api.State, in api.Input) api.State {
	t.Helper()
	next, e := voyage.Tick(v, s, in)
	if e != api.OK || !voyage.Valid(v, next) || next.Plant.Time != s.Plant.Time+1 {
		t.Fatalf("at %d: error %d, valid %v", s.Plant.Time, e, voyage.Valid(v, next))
	}
	return next
}

// green returns the state of the example ship as soon as its status is green.
func green(t *testing.T, v api.Vessel) api.State {
	t.Helper()
	s := lit(t, v)
	for range 5 {
		s = step(t, v, s, calm(s))
	}
	if s.Class.Level != api.LevelGreen {
		t.Fatalf("the status is %v", s.Class)
	}
	return s
}

// added returns the entries behind those of a state before.
func added(before, behind api.State) []api.Entry {
	return behind.Book.Entries[len(before.Book.Entries):]
}

func entry(time, kind int, words ...int) api.Entry {
	return api.Entry{Time: time, Kind: kind, Words: words}
}

func TestWithoutReferences(t *testing.T) {
	v := example.Vessel()
	v.References, v.Design.Parts = nil, slices.DeleteFunc(v.Design.Parts, func(p api.Part) bool { return p.Kind == api.PartReference })
	s, _ := voyage.New(v)
	same(t, "New", []any{s.Class.Level, s.Estimate.State}, []any{api.LevelRed, api.EstimateNone})
	s = step(t, v, s, api.Input{})
	var numbers []int
	for _, a := range s.Alarms {
		numbers = append(numbers, a.Number)
	}
	same(t, "alarms", numbers, []int{1, 3, 4, 6})
}

func TestBecomingGreen(t *testing.T) {
	v := example.Vessel()
	s := lit(t, v)
	var levels []int
	for range 5 {
		s = step(t, v, s, calm(s))
		levels = append(levels, s.Class.Level)
	}
	same(t, "levels", levels, []int{1, 1, 2, 2, 3})
	same(t, "entries", s.Book.Entries[3:], []api.Entry{entry(3, 2, 1), entry(3, 7, 1, 1), entry(5, 1, 2), entry(5, 7, 1, 3), entry(5, 7, 2, 1), entry(7, 1, 3), entry(7, 7, 2, 3)})
	same(t, "estimate", s.Estimate, api.Estimate{Point: api.Point{X: 1000, Y: -500}, Bound: 100, Time: 7, State: api.EstimateGood})
	load, _ := weather.Total(v.Hull, calm(s).Weather, 300)
	demand, keeper := voyage.Demand(v, s, load, 300)
	a, _ := allocate.Divide(v.Ship, []int{200, 200, 200, 200}, s.Thrusts, demand)
	next := step(t, v, s, calm(s))
	same(t, "thrusts and keeper", []any{next.Thrusts, next.Keeper}, []any{a.Thrusts, keeper})
}

func TestFaults(t *testing.T) {
	v := example.Vessel()
	s := green(t, v)
	in := calm(s)
	in.Faults = []api.Fault{{Kind: api.FaultBegin, Part: part(9, 0)}, {Kind: api.FaultBegin, Part: part(5, 1)}}
	next := step(t, v, s, in)
	same(t, "broken", []any{next.Broken, next.Plant.Power.Broken}, []any{[]api.Part{part(5, 1), part(9, 0)}, []api.Part{part(1, 0)}})
	same(t, "entries", added(s, next), []api.Entry{
		entry(8, 6, 8, 0, 1, 0), entry(8, 6, 2, 1, 0, 0), entry(8, 6, 2, 3, 0, 0), entry(8, 6, 2, 5, 0, 0), entry(8, 6, 2, 7, 0, 0),
		entry(8, 4, 1, 0), entry(8, 4, 5, 1), entry(8, 4, 9, 0), entry(8, 1, 2), entry(8, 7, 2, 1), entry(8, 7, 8, 1),
	})
	same(t, "only the stern is left", next.Thrusts[:3], make([]api.Thrust, 3))
	in = calm(next)
	in.Faults = []api.Fault{{Kind: api.FaultEnd, Part: part(9, 0)}, {Kind: api.FaultEnd, Part: part(1, 0)}, {Kind: api.FaultBegin, Part: part(6, 2)}}
	last := step(t, v, next, in)
	same(t, "mended", []any{last.Broken, last.Plant.Power.Broken}, []any{[]api.Part{part(5, 1), part(6, 2)}, []api.Part{}})
	same(t, "entries", added(next, last)[:4], []api.Entry{entry(9, 6, 9, 0, 1, 0), entry(9, 4, 6, 2), entry(9, 5, 1, 0), entry(9, 5, 9, 0)})
}

func TestMissing(t *testing.T) {
	v := example.Vessel()
	s := green(t, v)
	in := calm(s)
	in.Weather.Wind.Speed = 4000
	next := step(t, v, s, in)
	load, _ := weather.Total(v.Hull, in.Weather, 300)
	demand, _ := voyage.Demand(v, s, load, 300)
	_, able, _ := consequence.After(v, s.Plant, nil, nil)
	a, _ := allocate.Divide(v.Ship, able, s.Thrusts, demand)
	l := added(s, next)
	same(t, "entries", l, []api.Entry{entry(8, 1, 1), entry(8, 8, a.Missing.Surge, a.Missing.Bow, a.Missing.Stern), entry(8, 7, 1, 1), entry(8, 7, 7, 1)})
	same(t, "something is missing", a.Missing.Surge != 0, true)
}

func TestBrokenReferencesSeeNothing(t *testing.T) {
	v := example.Vessel()
	s := green(t, v)
	in := calm(s)
	in.Faults = []api.Fault{{Kind: api.FaultBegin, Part: part(6, 0)}}
	in.Sights = append(in.Sights, api.Sight{Reference: 9, Fix: in.Sights[0].Fix}, api.Sight{Reference: -1})
	in.Sights[2].Fix.Time++
	next := step(t, v, s, in)
	same(t, "times", []int{next.Tracks[0].Last.Time, next.Tracks[1].Last.Time, next.Tracks[2].Last.Time}, []int{7, 8, 7})
}

func TestLostPlace(t *testing.T) {
	v := example.Vessel()
	s := green(t, v)
	for range 3 {
		in := calm(s)
		in.Sights = nil
		s = step(t, v, s, in)
	}
	same(t, "lost", []any{s.Estimate.State, s.Estimate.Bound, s.Class.Level}, []any{api.EstimateLost, 250, api.LevelRed})
}

func TestOperations(t *testing.T) {
	v := example.Vessel()
	s := green(t, v)
	var operations []int
	var progresses []api.Progress
	for i, request := range []int{api.RequestStart, api.RequestReady, api.RequestStart, 0, 0, 0, 0, 0, 0, 0, 0, 0, api.RequestReset, 0} {
		in := calm(s)
		in.Request = request
		if i == 4 {
			in.Faults = []api.Fault{{Kind: api.FaultBegin, Part: part(3, 0)}}
		}
		if i == 5 {
			in.Weather.Wind.Speed = 6000
		}
		s = step(t, v, s, in)
		operations, progresses = append(operations, s.Operation), append(progresses, s.Progress)
	}
	const idle, ready, active, advisory, leaving, left = 0, 1, 2, 3, 4, 5
	same(t, "operations", operations, []int{idle, ready, active, active, advisory, leaving, leaving, leaving, leaving, left, left, left, idle, idle})
	begun, _ := disconnect.New(v.Sequence, 13)
	same(t, "the sequence begins", progresses[5], begun)
	for i := 6; i < 12; i++ {
		next, _ := disconnect.Step(v.Sequence, progresses[i-1], nil)
		same(t, fmt.Sprint(i), progresses[i], next)
	}
	same(t, "no sequence", []any{progresses[4], progresses[12]}, []any{api.Progress{}, api.Progress{}})
}

func TestStopLeaves(t *testing.T) {
	v := example.Vessel()
	s := green(t, v)
	for _, request := range []int{api.RequestReady, api.RequestStart, api.RequestStop} {
		in := calm(s)
		in.Request = request
		before := s
		s = step(t, v, s, in)
		same(t, fmt.Sprint(request), added(before, s), []api.Entry{entry(s.Plant.Time, 3, map[int]int{1: 1, 2: 2, 3: 4}[request])})
	}
	same(t, "works", len(s.Progress.Works), 3)
}

func TestSeen(t *testing.T) {
	v := example.Vessel()
	s := green(t, v)
	same(t, "alarms", s.Alarms, []api.Alarm{{Number: 1, Urgency: 1, State: api.AlarmGone, Since: 3}, {Number: 2, Urgency: 2, State: api.AlarmGone, Since: 5}})
	in := calm(s)
	in.Seen = []int{2, 99, 2, -1}
	in.Faults = []api.Fault{{Kind: api.FaultBegin, Part: part(9, 2)}}
	next := step(t, v, s, in)
	same(t, "one is left", next.Alarms, []api.Alarm{s.Alarms[0], {Number: 8, Urgency: 4, State: api.AlarmRaised, Since: 8}})
	same(t, "entries", added(s, next), []api.Entry{entry(8, 4, 9, 2), entry(8, 7, 2, 0), entry(8, 7, 8, 1)})
	in = calm(next)
	in.Seen = []int{8}
	same(t, "seen", step(t, v, next, in).Alarms[1].State, api.AlarmSeen)
}

func TestWildActsInTheBook(t *testing.T) {
	v := example.Vessel()
	s := green(t, v)
	in := calm(s)
	in.Acts = []api.Act{{Kind: math.MinInt, Unit: math.MaxInt, Value: -5}}
	in.Faults = []api.Fault{{Kind: api.FaultBegin, Part: part(4, 9)}}
	next := step(t, v, s, in)
	same(t, "entries", added(s, next), []api.Entry{entry(8, 6, 8, 9, 4, int(api.ErrUnknown)), entry(8, 6, -1000000000, 1000000000, -5, int(api.ErrRange))})
}

func TestTickErrors(t *testing.T) {
	v := example.Vessel()
	s := green(t, v)
	for i, x := range []struct {
		change func(s *api.State, in *api.Input)
		want   api.Errno
	}{
		{func(s *api.State, in *api.Input) { s.Thrusts = nil; in.Heading = -1 }, api.ErrVessel}, {func(s *api.State, in *api.Input) { in.Weather.Wave.Speed = -1 }, api.ErrRange}, {func(s *api.State, in *api.Input) { in.Heading = 3600 }, api.ErrRange}, {func(s *api.State, in *api.Input) { in.Sights = make([]api.Sight, 61) }, api.ErrRange}, {func(s *api.State, in *api.Input) { in.Faults = make([]api.Fault, 61) }, api.ErrRange}, {func(s *api.State, in *api.Input) { in.Seen = make([]int, 61) }, api.ErrRange}, {func(s *api.State, in *api.Input) { in.Request = 5 }, api.ErrRange}, {func(s *api.State, in *api.Input) { in.Request = -1; in.Acts = make([]api.Act, 201) }, api.ErrRange},
		{func(s *api.State, in *api.Input) { in.Acts = make([]api.Act, 201) }, api.ErrLimit}, {func(s *api.State, in *api.Input) { in.Acts = make([]api.Act, 200) }, api.ErrLimit}, {func(s *api.State, in *api.Input) { s.Tracks[0].Last.Time = 99 }, api.ErrTime},
		{func(s *api.State, in *api.Input) {
			in.Sights, in.Faults, in.Seen, in.Request = make([]api.Sight, 60), make([]api.Fault, 60), make([]int, 60), 4
		}, api.OK},
	} {
		s, in := s, calm(s)
		s.Tracks = slices.Clone(s.Tracks)
		x.change(&s, &in)
		next, e := voyage.Tick(v, s, in)
		same(t, fmt.Sprint(i), e, x.want)
		again, f := voyage.Run(v, s, []api.Input{in})
		same(t, fmt.Sprint(i), []any{again, f}, []any{next, e})
		if e != api.OK {
			same(t, fmt.Sprint(i), next, api.State{})
		}
	}
}

func TestFullBook(t *testing.T) {
	v := example.Vessel()
	s := green(t, v)
	for len(s.Book.Entries) < api.MaxEntries {
		s.Book, _ = logbook.Append(s.Book, entry(s.Plant.Time, api.EntryShort, 0, 0, 0))
	}
	same(t, "nothing to say", len(added(s, step(t, v, s, calm(s)))), 0)
	in := calm(s)
	in.Seen = []int{1}
	next, e := voyage.Tick(v, s, in)
	same(t, "something to say", []any{next, e}, []any{api.State{}, api.ErrLimit})
}

func TestEndOfTime(t *testing.T) {
	v := example.Vessel()
	s := lit(t, v)
	s.Plant.Time, s.Estimate.Time = api.MaxTime, api.MaxTime
	_, e := voyage.Tick(v, s, api.Input{})
	same(t, "the end of time", e, api.ErrTime)
}

func TestRun(t *testing.T) {
	v := example.Vessel()
	s := green(t, v)
	whole := s
	var l []api.Input
	for i := range 6 {
		in := calm(whole)
		in.Seen = []int{i}
		l = append(l, in)
		whole = step(t, v, whole, in)
	}
	got, e := voyage.Run(v, s, l)
	same(t, "Run", []any{got, e}, []any{whole, api.OK})
	got, e = voyage.Run(v, s, make([]api.Input, 61))
	same(t, "too many", []any{got, e}, []any{api.State{}, api.ErrLimit})
	quiet := api.Input{Heading: 300}
	_, e = voyage.Run(v, s, slices.Repeat([]api.Input{quiet}, 60))
	same(t, "60", e, api.OK)
	got, e = voyage.Run(v, s, nil)
	same(t, "none", []any{got, e}, []any{s, api.OK})
	l[3].Heading = -1
	got, e = voyage.Run(v, s, l)
	same(t, "the first error", []any{got, e}, []any{api.State{}, api.ErrRange})
}

func TestManyTicks(t *testing.T) {
	r := rand.New(rand.NewSource(26))
	v := example.Vessel()
	for range 12 {
		s := lit(t, v)
		for range 25 {
			in := calm(s)
			in.Weather.Wind.Speed, in.Request, in.Seen = r.Intn(3000), r.Intn(5), []int{r.Intn(9)}
			if r.Intn(3) == 0 {
				in.Faults = append(in.Faults, api.Fault{Kind: 1 + r.Intn(2), Part: v.Design.Parts[r.Intn(len(v.Design.Parts))]})
			}
			if r.Intn(3) == 0 {
				in.Acts = append(in.Acts, api.Act{Kind: 1 + r.Intn(6), Unit: r.Intn(9), Value: r.Intn(2)})
			}
			in.Sights = in.Sights[:r.Intn(4)]
			next, e := voyage.Tick(v, s, in)
			if e == api.ErrLimit {
				break
			}
			load, _ := weather.Total(v.Hull, in.Weather, in.Heading)
			if e != api.OK || !voyage.Valid(v, next) || next.Class.Level > voyage.Judged(v, next, load) {
				t.Fatalf("%v, %v: error %d", s, in, e)
			}
			_, able, _ := consequence.After(v, next.Plant, next.Broken, nil)
			for i, x := range next.Thrusts {
				if x.X*x.X+x.Y*x.Y > able[i]*able[i] {
					t.Fatalf("%v: the thrust %d is too great", next, i)
				}
			}
			s = next
		}
	}
}
