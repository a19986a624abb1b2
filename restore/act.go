package restore

import (
	"cmp"
	"slices"

	"dynpos/api"
	"dynpos/board"
	"dynpos/clone"
	"dynpos/sync"
)

// Act carries out an act of a plan or command at a time.
func Act(b api.Board, p api.Power, time int, a api.Act) (api.Power, api.Errno) {
	if e := board.State(b, p); e != api.OK {
		return api.Power{}, e
	}
	if time < 0 || time > api.MaxTime || a.Kind < api.ActClose || a.Kind > api.ActMend {
		return api.Power{}, api.ErrRange
	}
	switch a.Kind {
	case api.ActClose:
		return sync.Close(b, p, a.Unit)
	case api.ActOpen:
		return sync.Open(b, p, a.Unit)
	case api.ActSync:
		return sync.Match(b, p, a.Unit, a.Value)
	case api.ActWait:
		return wait(b, p, time)
	}
	kind := a.Value
	switch a.Kind {
	case api.ActStart, api.ActStop:
		kind = api.PartSource
	case api.ActLimit:
		kind = api.PartConsumer
	}
	if a.Unit < 0 || a.Unit >= count(b, kind) {
		return api.Power{}, api.ErrUnknown
	}
	q := clone.Power(p)
	if e := apply(b, &q, time, a); e != api.OK {
		return api.Power{}, e
	}
	return q, api.OK
}

// count returns how many parts of a kind a board has.
func count(b api.Board, kind int) int {
	switch kind {
	case api.PartSource:
		return len(b.Sources)
	case api.PartBreaker:
		return len(b.Breakers)
	case api.PartBus:
		return b.Buses
	case api.PartConsumer:
		return len(b.Consumers)
	}
	return 0
}

// apply changes a state by an act whose part exists.
func apply(b api.Board, p *api.Power, time int, a api.Act) api.Errno {
	switch a.Kind {
	case api.ActStart:
		return start(b, p, time, a.Unit)
	case api.ActStop:
		return stop(b, p, a.Unit)
	case api.ActLimit:
		if a.Value < 0 || a.Value > b.Consumers[a.Unit].Load {
			return api.ErrRange
		}
		p.Limits[a.Unit] = a.Value
		return api.OK
	case api.ActFail:
		return fail(p, api.Part{Kind: a.Value, Number: a.Unit})
	}
	return mend(p, api.Part{Kind: a.Value, Number: a.Unit})
}

// start starts a generator that is off and whole.
func start(b api.Board, p *api.Power, time, source int) api.Errno {
	if p.Sources[source].State != api.SourceOff || board.Broken(*p, api.PartSource, source) {
		return api.ErrState
	}
	state := api.SourceStarting
	if b.Sources[source].Start == 0 && !p.Closed[breaker(b, source)] {
		state = api.SourceReady
	}
	p.Sources[source] = api.Running{State: state, Since: time, Frequency: api.Nominal}
	return api.OK
}

// stop stops a generator that is not connected.
func stop(b api.Board, p *api.Power, source int) api.Errno {
	r := &p.Sources[source]
	if r.State != api.SourceStarting && r.State != api.SourceReady || p.Closed[breaker(b, source)] {
		return api.ErrState
	}
	r.State = api.SourceOff
	return api.OK
}

// place returns where a part is, or belongs, among the broken ones, and whether it is there.
func place(p *api.Power, part api.Part) (int, bool) {
	return slices.BinarySearchFunc(p.Broken, part, func(x, y api.Part) int {
		return cmp.Or(cmp.Compare(x.Kind, y.Kind), cmp.Compare(x.Number, y.Number))
	})
}

// fail breaks a part that is whole.
func fail(p *api.Power, part api.Part) api.Errno {
	at, broken := place(p, part)
	if broken {
		return api.ErrState
	}
	if len(p.Broken) >= api.MaxBroken {
		return api.ErrLimit
	}
	p.Broken = slices.Insert(p.Broken, at, part)
	if part.Kind == api.PartSource {
		p.Sources[part.Number].State = api.SourceFailed
	}
	return api.OK
}

// mend makes a part that is broken whole.
func mend(p *api.Power, part api.Part) api.Errno {
	at, broken := place(p, part)
	if !broken {
		return api.ErrState
	}
	p.Broken = slices.Delete(p.Broken, at, at+1)
	if part.Kind == api.PartSource {
		p.Sources[part.Number].State = api.SourceOff
	}
	return api.OK
}

// wait lets a tick pass; generators that have started become ready at its end.
func wait(b api.Board, p api.Power, time int) (api.Power, api.Errno) {
	p, e := sync.Turn(b, p)
	if e != api.OK {
		return api.Power{}, e
	}
	for i, r := range p.Sources {
		if r.State == api.SourceStarting && !p.Closed[breaker(b, i)] && r.Since+b.Sources[i].Start <= time+1 {
			p.Sources[i].State = api.SourceReady
		}
	}
	return p, api.OK
}
