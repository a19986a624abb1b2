package voyage

import (
	"maps"
	"slices"

	"dynpos/alarm"
	"dynpos/allocate"
	"dynpos/api"
	"dynpos/arith"
	"dynpos/circle"
	"dynpos/consequence"
	"dynpos/design"
	"dynpos/disconnect"
	"dynpos/estimate"
	"dynpos/logbook"
	"dynpos/operation"
	"dynpos/plant"
	"dynpos/status"
	"dynpos/weather"
)

// tick is a ship while a tick passes: its state as it becomes, what it was before, and what the later steps need of the earlier ones.
type tick struct {
	api.State
	vessel  api.Vessel
	before  api.State
	input   api.Input
	events  []api.Event
	load    api.Force
	missing api.Demand
	zone    int
}

// Tick is a tick.
func Tick(v api.Vessel, s api.State, in api.Input) (api.State, api.Errno) {
	if e := Check(v); e != api.OK {
		return api.State{}, e
	}
	if !Valid(v, s) {
		return api.State{}, api.ErrVessel
	}
	if !inputFits(in) {
		return api.State{}, api.ErrRange
	}
	t := &tick{State: s, vessel: v, before: s, input: in}
	for _, step := range [7]func(t *tick) api.Errno{(*tick).power, (*tick).place, (*tick).push, (*tick).classify, (*tick).operate, (*tick).warn, (*tick).write} {
		if e := step(t); e != api.OK {
			return api.State{}, e
		}
	}
	return t.State, api.OK
}

// inputFits reports whether an input can be one of a tick; acts are looked at by the plant.
func inputFits(in api.Input) bool {
	return weather.Valid(in.Weather) && direction(in.Heading) && max(len(in.Sights), len(in.Faults), len(in.Seen)) <= api.MaxInputs &&
		between(in.Request, api.RequestNone, api.RequestReset)
}

// now returns the time of the state.
func (t *tick) now() int {
	return t.Plant.Time
}

// power lets parts break, and the plant run.
func (t *tick) power() (e api.Errno) {
	acts, broken := Acts(t.vessel, t.before, t.input.Faults)
	t.Broken = broken
	t.Plant, t.events, e = plant.Step(t.vessel.Board, t.vessel.Table, t.before.Plant, append(acts, t.input.Acts...))
	return e
}

// place finds out where the ship is, by the references that are whole.
func (t *tick) place() (e api.Errno) {
	broken := consequence.Now(t.vessel.Design, t.Plant, t.Broken)
	var fixes []api.Signal
	for _, x := range t.input.Sights {
		if !design.Has(broken, api.Part{Kind: api.PartReference, Number: x.Reference}) {
			fixes = append(fixes, api.Signal{Kind: api.SignalFix, Source: x.Reference, Time: x.Fix.Time, A: x.Fix.X, B: x.Fix.Y, C: x.Fix.Error})
		}
	}
	t.Tracks, t.Estimate, _, e = estimate.Step(t.vessel.References, t.vessel.Operation.Drift, t.Tracks, t.Estimate, t.now(), fixes)
	return e
}

// push divides the demand among the thrusters that are able.
func (t *tick) push() (e api.Errno) {
	t.load, e = weather.Total(t.vessel.Hull, t.input.Weather, t.input.Heading)
	if e != api.OK {
		return e
	}
	demand, keeper := Demand(t.vessel, t.State, t.load, t.input.Heading)
	t.Keeper = keeper
	_, able, e := consequence.After(t.vessel, t.Plant, t.Broken, nil)
	if e != api.OK {
		return e
	}
	a, e := allocate.Divide(t.vessel.Ship, able, t.Thrusts, demand)
	t.Thrusts, t.missing = a.Thrusts, a.Missing
	return e
}

// classify decides the class.
func (t *tick) classify() (e api.Errno) {
	t.Class, e = status.Next(t.Class, t.now(), Judged(t.vessel, t.State, t.load), t.vessel.Delay)
	return e
}

// operate moves the operation on, and its disconnect sequence.
func (t *tick) operate() (e api.Errno) {
	if leaves(t.Operation) {
		t.Progress, e = disconnect.Step(t.vessel.Sequence, t.Progress, nil)
		if e != api.OK {
			return e
		}
	}
	o := t.vessel.Operation
	t.zone = circle.Worst(o.Circle, t.Estimate)
	if asked, e := operation.Ask(o, t.Operation, t.Class.Level, t.zone, t.input.Request); e == api.OK {
		t.Operation = asked
	}
	t.Operation, e = operation.Next(o, t.Operation, t.Class.Level, t.zone, disconnect.Done(t.Progress))
	if e != api.OK {
		return e
	}
	switch {
	case !leaves(t.Operation):
		t.Progress = api.Progress{}
	case t.Operation == api.OperationLeaving && len(t.Progress.Works) == 0:
		t.Progress, e = disconnect.New(t.vessel.Sequence, t.now())
	}
	return e
}

// warn updates the alarms, and takes note of those that were seen.
func (t *tick) warn() (e api.Errno) {
	t.Alarms, e = alarm.Update(t.Alarms, Causes(t.vessel, t.State, t.zone, t.missing), t.now())
	for _, number := range t.input.Seen {
		if next, e := alarm.See(t.Alarms, number, t.now()); e == api.OK {
			t.Alarms = next
		}
	}
	return e
}

// write adds the entries of the tick to the book.
func (t *tick) write() (e api.Errno) {
	entries := slices.Concat(t.acts(), t.parts(), t.modes(), t.shorts(), t.alarms())
	for _, x := range entries {
		t.Book, e = logbook.Append(t.Book, x)
		if e != api.OK {
			return e
		}
	}
	return api.OK
}

// entry returns an entry of now.
func (t *tick) entry(kind int, words ...int) api.Entry {
	return api.Entry{Time: t.now(), Kind: kind, Words: words}
}

// acts returns the entries of what the plant has noted.
func (t *tick) acts() []api.Entry {
	var l []api.Entry
	for _, x := range t.events {
		words := []int{x.Act.Kind, x.Act.Unit, x.Act.Value, int(x.Err)}
		for i, w := range words {
			words[i] = arith.Clamp(w, -api.MaxNumber, api.MaxNumber)
		}
		l = append(l, t.entry(api.EntryAct, words...))
	}
	return l
}

// parts returns the entries of the parts that are newly broken, and then of those that are whole again.
func (t *tick) parts() []api.Entry {
	was := consequence.Now(t.vessel.Design, t.before.Plant, t.before.Broken)
	is := consequence.Now(t.vessel.Design, t.Plant, t.Broken)
	var l []api.Entry
	for _, change := range [2]struct {
		kind     int
		now, not []api.Part
	}{{api.EntryBroken, is, was}, {api.EntryWhole, was, is}} {
		for _, p := range change.now {
			if !design.Has(change.not, p) {
				l = append(l, t.entry(change.kind, p.Kind, p.Number))
			}
		}
	}
	return l
}

// modes returns the entries of the modes that have changed.
func (t *tick) modes() []api.Entry {
	was, is := modes(t.before), modes(t.State)
	var l []api.Entry
	for i, x := range is {
		if x.Words[0] != was[i].Words[0] {
			l = append(l, x)
		}
	}
	return l
}

// shorts returns the entry of what is missing, if something is.
func (t *tick) shorts() []api.Entry {
	if t.missing == (api.Demand{}) {
		return nil
	}
	return []api.Entry{t.entry(api.EntryShort, t.missing.Surge, t.missing.Bow, t.missing.Stern)}
}

// states returns the states of alarms by their numbers.
func states(l []api.Alarm) map[int]int {
	m := map[int]int{}
	for _, a := range l {
		m[a.Number] = a.State
	}
	return m
}

// alarms returns the entries of the alarms whose states have changed.
func (t *tick) alarms() []api.Entry {
	was, is := states(t.before.Alarms), states(t.Alarms)
	numbers := slices.AppendSeq(slices.Collect(maps.Keys(was)), maps.Keys(is))
	slices.Sort(numbers)
	var l []api.Entry
	for _, n := range slices.Compact(numbers) {
		if was[n] != is[n] {
			l = append(l, t.entry(api.EntryAlarm, n, is[n]))
		}
	}
	return l
}

// Run makes ticks, one after the other.
func Run(v api.Vessel, s api.State, l []api.Input) (api.State, api.Errno) {
	if len(l) > api.MaxInputs {
		return api.State{}, api.ErrLimit
	}
	for _, in := range l {
		next, e := Tick(v, s, in)
		if e != api.OK {
			return api.State{}, e
		}
		s = next
	}
	return s, api.OK
}
