package restore_test

import (
	"fmt"
	"math"
	"math/rand"
	"slices"
	"testing"

	"dynpos/api"
	"dynpos/balance"
	"dynpos/board"
	"dynpos/restore"
	"dynpos/shed"
	"dynpos/sync"
)

func equal(t *testing.T, name string, got, want any) {
	t.Helper()
	if g, w := fmt.Sprint(got), fmt.Sprint(want); g != w {
		t.Errorf("%s: %s, not %s", name, g, w)
	}
}

func act(kind, unit, value int) api.Act { return api.Act{Kind: kind, Unit: unit, Value: value} }

// three has three buses in a row (ties 0, 1), generators at the first and the last one (2, 3), and consumers: 0 at the first (4), 1 at the second and the third one (5, 6).
func three() (api.Board, api.Power) {
	b := api.Board{Buses: 3, Breakers: []api.Breaker{{Kind: api.BreakerTie, A: 0, B: 1}, {Kind: api.BreakerTie, A: 1, B: 2}, {Kind: api.BreakerSource, A: 0, B: 0}, {Kind: api.BreakerSource, A: 2, B: 1}, {Kind: api.BreakerConsumer, A: 0, B: 0}, {Kind: api.BreakerConsumer, A: 1, B: 1}, {Kind: api.BreakerConsumer, A: 2, B: 1}},
		Sources: []api.Source{{Rating: 100, Start: 3}, {Rating: 100}}, Consumers: []api.Consumer{{Load: 60, Thruster: -1}, {Load: 50, Preference: 1, Thruster: -1}}, Phase: 50, Frequency: 20}
	p := api.Power{Closed: make([]bool, 7), Sources: []api.Running{{Frequency: 5000}, {Frequency: 5000}}, Limits: []int{60, 50}}
	return b, p
}

// with is its state with parts that are broken.
func with(parts ...api.Part) api.Power {
	_, p := three()
	p.Broken = parts
	return p
}

func part(kind, number int) api.Part { return api.Part{Kind: kind, Number: number} }

func TestUsable(t *testing.T) {
	b, p := three()
	equal(t, "Usable", []bool{restore.Usable(b, p, 0), restore.Usable(b, p, 1), restore.Usable(b, p, 2), restore.Usable(b, p, -1), restore.Usable(b, api.Power{}, 0)}, []bool{true, true, false, false, false})
	for _, x := range []api.Part{part(1, 0), part(2, 2), part(3, 0)} {
		equal(t, fmt.Sprint(x), []bool{restore.Usable(b, with(x), 0), restore.Usable(b, with(x), 1)}, []bool{false, true})
	}
	equal(t, "others", restore.Usable(b, with(part(1, 1), part(2, 0), part(3, 1)), 0), true)
	for state, want := range map[int]bool{0: true, 1: true, 2: true, 3: false} {
		p.Sources[0].State = state
		equal(t, fmt.Sprint(state), restore.Usable(b, p, 0), want)
	}
}

func TestGoal(t *testing.T) {
	b, p := three()
	equal(t, "no state", restore.Goal(b, api.Power{}), []bool{})
	equal(t, "whole", restore.Goal(b, p), []bool{true, true, true})
	for _, x := range []struct {
		broken []api.Part
		want   []bool
	}{{[]api.Part{part(3, 1)}, []bool{true, false, true}}, {[]api.Part{part(1, 0), part(2, 1)}, []bool{false, false, true}}, {[]api.Part{part(1, 0)}, []bool{true, true, true}}, {[]api.Part{part(1, 0), part(1, 1)}, []bool{false, false, false}}, {[]api.Part{part(1, 1), part(3, 0)}, []bool{false, false, false}}, {[]api.Part{part(1, 0), part(2, 0)}, []bool{false, true, true}}} {
		equal(t, fmt.Sprint(x.broken), restore.Goal(b, with(x.broken...)), x.want)
	}
}

func TestHopeless(t *testing.T) {
	b, _ := three()
	p := with(part(1, 0), part(2, 1))
	for _, x := range []struct {
		buses []int
		want  bool
	}{{[]int{0, 1}, true}, {[]int{0}, false}, {[]int{1}, false}, {nil, false}, {[]int{1, 0}, false}, {[]int{0, 0}, false}, {[]int{2}, false}, {[]int{0, 1, 2}, false}, {[]int{-1, 0, 1}, false}, {[]int{0, 1, 3}, false}} {
		equal(t, fmt.Sprint(x.buses), restore.Hopeless(b, p, x.buses), x.want)
	}
	equal(t, "a broken bus", []bool{restore.Hopeless(b, with(part(3, 1)), []int{1}), restore.Hopeless(b, with(part(3, 1)), []int{1, 1})}, []bool{true, false})
	equal(t, "no state", restore.Hopeless(b, api.Power{}, []int{0}), false)
}

func TestRestored(t *testing.T) {
	b, p := three()
	equal(t, "dark", restore.Restored(b, p), false)
	equal(t, "nothing to restore", restore.Restored(b, with(part(1, 0), part(1, 1))), true)
	equal(t, "no state", restore.Restored(b, api.Power{}), false)
	p.Sources[0].State, p.Closed[2], p.Closed[0] = api.SourceReady, true, true
	equal(t, "two of three", restore.Restored(b, p), false)
	p.Closed[1] = true
	equal(t, "lit", restore.Restored(b, p), true)
}

func TestBound(t *testing.T) {
	b, _ := three()
	equal(t, "Bound", []int{restore.Bound(b), restore.Bound(api.Board{}), restore.Bound(api.Board{Buses: 1})}, []int{14 + 2 + 3 + 1, 0, 1})
}

func TestActErrors(t *testing.T) {
	b, p := three()
	failed := with(part(1, 1))
	failed.Sources[1].State = api.SourceFailed
	running := with()
	running.Sources[0].State, running.Sources[1].State, running.Closed[2] = api.SourceReady, api.SourceStarting, true
	off := with(part(1, 0))
	for i, x := range []struct {
		p    api.Power
		time int
		a    api.Act
		want api.Errno
	}{
		{api.Power{}, -1, act(99, 0, 0), api.ErrShape}, {p, -1, act(api.ActStart, 9, 0), api.ErrRange}, {p, api.MaxTime + 1, act(api.ActStart, 9, 0), api.ErrRange}, {p, 0, act(0, 0, 0), api.ErrRange}, {p, 0, act(10, 0, 0), api.ErrRange}, {p, -1, act(api.ActWait, 0, 0), api.ErrRange},
		{p, 0, act(api.ActClose, 7, 0), api.ErrUnknown}, {p, 0, act(api.ActOpen, -1, 0), api.ErrUnknown}, {p, 0, act(api.ActStart, 2, 0), api.ErrUnknown}, {p, 0, act(api.ActStop, -1, 0), api.ErrUnknown}, {p, 0, act(api.ActLimit, 2, -1), api.ErrUnknown}, {p, 0, act(api.ActSync, 2, 0), api.ErrUnknown}, {p, 0, act(api.ActSync, 0, 3), api.ErrUnknown}, {p, 0, act(api.ActFail, 2, 1), api.ErrUnknown}, {p, 0, act(api.ActFail, 0, 0), api.ErrUnknown}, {p, 0, act(api.ActFail, 0, 5), api.ErrUnknown}, {p, 0, act(api.ActMend, 7, 2), api.ErrUnknown}, {p, 0, act(api.ActMend, 3, 3), api.ErrUnknown}, {p, 0, act(api.ActFail, math.MinInt, math.MaxInt), api.ErrUnknown},
		{p, 0, act(api.ActClose, 2, 0), api.ErrState}, {p, 0, act(api.ActOpen, 2, 0), api.ErrState}, {p, 0, act(api.ActSync, 0, 0), api.ErrState}, {p, 0, act(api.ActLimit, 0, 61), api.ErrRange}, {p, 0, act(api.ActLimit, 0, -1), api.ErrRange},
		{running, 0, act(api.ActStart, 0, 0), api.ErrState}, {running, 0, act(api.ActStart, 1, 0), api.ErrState}, {failed, 0, act(api.ActStart, 1, 0), api.ErrState}, {off, 0, act(api.ActStart, 0, 0), api.ErrState}, {running, 0, act(api.ActStop, 0, 0), api.ErrState}, {p, 0, act(api.ActStop, 0, 0), api.ErrState}, {failed, 0, act(api.ActStop, 1, 0), api.ErrState}, {failed, 0, act(api.ActFail, 1, 1), api.ErrState}, {p, 0, act(api.ActMend, 1, 1), api.ErrState},
	} {
		q, e := restore.Act(b, x.p, x.time, x.a)
		equal(t, fmt.Sprint(i), []any{q, e}, []any{api.Power{}, x.want})
	}
}

func TestActs(t *testing.T) {
	b, p := three()
	do := func(p api.Power, time int, a api.Act) api.Power {
		t.Helper()
		q, e := restore.Act(b, p, time, a)
		equal(t, fmt.Sprint(a), e, api.OK)
		return q
	}
	p.Sources[0].Phase, p.Sources[0].Frequency = 77, 4900
	q := do(p, 9, act(api.ActStart, 0, 0))
	equal(t, "starting", []any{q.Sources[0], p.Sources[0].State}, []any{api.Running{State: api.SourceStarting, Since: 9, Frequency: 5000}, 0})
	equal(t, "ready at once", do(p, 9, act(api.ActStart, 1, 5)).Sources[1], api.Running{State: api.SourceReady, Since: 9, Frequency: 5000})
	closed := with()
	closed.Closed[3] = true
	equal(t, "the breaker is closed", do(closed, 9, act(api.ActStart, 1, 0)).Sources[1].State, api.SourceStarting)
	equal(t, "stopped", do(q, 10, act(api.ActStop, 0, 0)).Sources[0], api.Running{Since: 9, Frequency: 5000})
	equal(t, "the whole load, at the end of time", do(p, api.MaxTime, act(api.ActLimit, 1, 50)).Limits, []int{60, 50})
	equal(t, "limit", do(p, 0, act(api.ActLimit, 1, 0)).Limits, []int{60, 0})
	q = do(q, 10, act(api.ActWait, -5, 99))
	equal(t, "not ready", q.Sources[0].State, api.SourceStarting)
	q = do(q, 11, act(api.ActWait, 0, 0))
	equal(t, "ready", q.Sources[0].State, api.SourceReady)
	q.Sources[0].Frequency = 5001
	q = do(do(q, 12, act(api.ActClose, 2, 0)), 12, act(api.ActWait, 0, 0))
	equal(t, "turned", []any{q.Sources[0].Phase, q.Closed[2]}, []any{36, true})
	q = do(q, 13, act(api.ActFail, 0, api.PartSource))
	equal(t, "failed", []any{q.Sources[0].State, q.Broken, q.Closed[2]}, []any{api.SourceFailed, []api.Part{part(1, 0)}, true})
	q = do(do(do(q, 13, act(api.ActFail, 2, api.PartBus)), 13, act(api.ActFail, 1, api.PartConsumer)), 13, act(api.ActFail, 5, api.PartBreaker))
	equal(t, "broken", q.Broken, []api.Part{part(1, 0), part(2, 5), part(3, 2), part(4, 1)})
	q = do(do(q, 13, act(api.ActMend, 2, api.PartBus)), 13, act(api.ActMend, 0, api.PartSource))
	equal(t, "mended", []any{q.Broken, q.Sources[0].State}, []any{[]api.Part{part(2, 5), part(4, 1)}, api.SourceOff})
	equal(t, "waiting with a closed breaker", do(do(closed, 0, act(api.ActStart, 1, 0)), 50, act(api.ActWait, 0, 0)).Sources[1].State, api.SourceStarting)
	equal(t, "opened", do(closed, 0, act(api.ActOpen, 3, 0)).Closed[3], false)
	one := with()
	one.Sources[0].State, one.Sources[1].State, one.Closed[2], one.Sources[0].Phase = 2, 2, true, 300
	equal(t, "sync", do(one, 0, act(api.ActSync, 1, 0)).Sources[1].Phase, 300)
}

func TestTooManyBroken(t *testing.T) {
	b := api.Board{Buses: 6, Sources: make([]api.Source, 8)}
	p := api.Power{Sources: make([]api.Running, 8)}
	for i := range b.Sources {
		b.Sources[i].Rating = 1
		b.Breakers, p.Closed = append(b.Breakers, api.Breaker{Kind: api.BreakerSource, B: i}), append(p.Closed, false)
	}
	for len(b.Breakers) < 24 {
		b.Breakers, p.Closed = append(b.Breakers, api.Breaker{Kind: api.BreakerTie, B: 1}), append(p.Closed, false)
	}
	for i := range 24 {
		p, _ = restore.Act(b, p, 0, act(api.ActFail, i, api.PartBreaker))
	}
	for i := range 8 {
		p, _ = restore.Act(b, p, 0, act(api.ActFail, i, api.PartSource))
	}
	_, again := restore.Act(b, p, 0, act(api.ActFail, 0, api.PartSource))
	_, e := restore.Act(b, p, 0, act(api.ActFail, 0, api.PartBus))
	equal(t, "33 parts", []any{len(p.Broken), again, e}, []any{32, api.ErrState, api.ErrLimit})
}

func TestRun(t *testing.T) {
	b, p := three()
	q, time, n, e := restore.Run(b, p, 7, []api.Act{act(api.ActStart, 1, 0), act(api.ActWait, 0, 0), act(api.ActClose, 3, 0)})
	equal(t, "Run", []any{q.Closed[3], time, n, e}, []any{true, 8, 3, api.OK})
	q, time, n, e = restore.Run(b, p, 7, []api.Act{act(api.ActWait, 0, 0), act(api.ActClose, 3, 0), act(api.ActWait, 0, 0)})
	equal(t, "Run with an error", []any{q, time, n, e}, []any{p, 8, 1, api.ErrState})
	q, time, n, e = restore.Run(b, p, -5, nil)
	equal(t, "Run of nothing", []any{q, time, n, e}, []any{p, -5, 0, api.OK})
	q, time, n, e = restore.Run(b, api.Power{}, 7, nil)
	equal(t, "no state", []any{q, time, n, e}, []any{api.Power{}, 0, 0, api.ErrShape})
}

func TestPlanOfTheExample(t *testing.T) {
	b := api.Board{Buses: 2, Breakers: []api.Breaker{{Kind: api.BreakerTie, B: 1}, {Kind: api.BreakerSource}}, Sources: []api.Source{{Rating: 9, Start: 3}}}
	p := api.Power{Closed: make([]bool, 2), Sources: make([]api.Running, 1)}
	l, e := restore.Plan(b, p)
	wait := act(api.ActWait, 0, 0)
	equal(t, "Plan", []any{l, e}, []any{[]api.Act{act(api.ActStart, 0, 0), wait, wait, wait, act(api.ActClose, 1, 0), act(api.ActClose, 0, 0)}, api.OK})
	p.Closed[0] = true
	l, e = restore.Plan(b, p)
	equal(t, "with a closed tie", []any{l, e}, []any{[]api.Act{act(api.ActOpen, 0, 0), act(api.ActStart, 0, 0), wait, wait, wait, act(api.ActClose, 1, 0), act(api.ActClose, 0, 0)}, api.OK})
	p.Sources[0].State = api.SourceStarting
	b.Sources[0].Start = 0
	l, _ = restore.Plan(b, p)
	equal(t, "it starts already", l, []api.Act{act(api.ActOpen, 0, 0), wait, act(api.ActClose, 1, 0), act(api.ActClose, 0, 0)})
	p.Sources[0].State = api.SourceReady
	l, _ = restore.Plan(b, p)
	equal(t, "it is ready", l, []api.Act{act(api.ActOpen, 0, 0), act(api.ActClose, 1, 0), act(api.ActClose, 0, 0)})
}

func TestPlanOfConsumers(t *testing.T) {
	b, p := three()
	wait := act(api.ActWait, 0, 0)
	begin := []api.Act{act(api.ActStart, 0, 0), act(api.ActStart, 1, 0), wait, wait, wait, act(api.ActClose, 2, 0), act(api.ActClose, 3, 0), act(api.ActClose, 0, 0)}
	l, e := restore.Plan(b, p)
	equal(t, "the important one takes the room of the other", []any{l, e}, []any{append(slices.Clone(begin), act(api.ActClose, 5, 0)), api.OK})
	p.Limits[0] = 50
	l, _ = restore.Plan(b, p)
	equal(t, "both fit", l, append(slices.Clone(begin), act(api.ActClose, 5, 0), act(api.ActClose, 4, 0)))
	p = with(part(2, 5))
	l, _ = restore.Plan(b, p)
	equal(t, "a broken breaker", l, append(slices.Clone(begin), act(api.ActClose, 6, 0), act(api.ActClose, 4, 0)))
	p = with(part(4, 1))
	l, _ = restore.Plan(b, p)
	equal(t, "a broken consumer", l, append(slices.Clone(begin), act(api.ActClose, 4, 0)))
	p = with(part(3, 1))
	l, _ = restore.Plan(b, p)
	equal(t, "a broken bus", l, append(slices.Clone(begin[:7]), act(api.ActClose, 6, 0), act(api.ActClose, 4, 0)))
	b.Sources[0].Rating = 40
	b.Sources[1].Rating = 59
	l, _ = restore.Plan(b, with(part(3, 1)))
	equal(t, "no room", l, append(slices.Clone(begin[:7]), act(api.ActClose, 6, 0)))
}

func TestPlanErrors(t *testing.T) {
	b, p := three()
	unprotected := with()
	unprotected.Closed[4] = true
	stuck := with(part(2, 0))
	stuck.Closed[0] = true
	lit := with()
	lit.Sources[0].State, lit.Closed[0], lit.Closed[1], lit.Closed[2] = api.SourceReady, true, true, true
	unfollowed := with()
	unfollowed.Sources[0].State, unfollowed.Sources[1].State, unfollowed.Sources[1].Phase = 2, 2, 5
	unfollowed.Closed[0], unfollowed.Closed[1], unfollowed.Closed[2], unfollowed.Closed[3] = true, true, true, true
	for i, x := range []struct {
		b    api.Board
		p    api.Power
		want api.Errno
	}{{b, api.Power{}, api.ErrShape}, {api.Board{}, p, api.ErrLimit}, {b, unprotected, api.ErrState}, {b, stuck, api.ErrState}, {b, unfollowed, api.ErrState}, {b, lit, api.ErrNone}, {b, with(part(1, 0), part(1, 1)), api.ErrNone}} {
		l, e := restore.Plan(x.b, x.p)
		equal(t, fmt.Sprint(i), []any{l, e}, []any{[]api.Act{}, x.want})
	}
}

// random returns a board of up to six buses in a state.
func random(r *rand.Rand) (api.Board, api.Power) {
	b, p := api.Board{Buses: 1 + r.Intn(6), Phase: 20, Frequency: 10}, api.Power{}
	add := func(k api.Breaker) { b.Breakers, p.Closed = append(b.Breakers, k), append(p.Closed, r.Intn(3) == 0) }
	for i := range r.Intn(5) {
		b.Sources, p.Sources = append(b.Sources, api.Source{Rating: 1 + r.Intn(100), Start: r.Intn(4)}), append(p.Sources, api.Running{State: r.Intn(4), Since: r.Intn(10), Frequency: 4999 + r.Intn(3), Phase: r.Intn(3600)})
		add(api.Breaker{Kind: api.BreakerSource, A: r.Intn(b.Buses), B: i})
	}
	for i := range b.Buses {
		if i > 0 {
			add(api.Breaker{Kind: api.BreakerTie, A: r.Intn(i), B: i})
		}
	}
	for i := range r.Intn(6) {
		load := r.Intn(60)
		b.Consumers, p.Limits = append(b.Consumers, api.Consumer{Load: load, Preference: r.Intn(3), Thruster: -1}), append(p.Limits, r.Intn(load+1))
		add(api.Breaker{Kind: api.BreakerConsumer, A: r.Intn(b.Buses), B: i})
	}
	for kind, n := range [5]int{0, len(b.Sources), len(b.Breakers), b.Buses, len(b.Consumers)} {
		for i := range n {
			if r.Intn(9) == 0 {
				p.Broken = append(p.Broken, part(kind, i))
			}
		}
	}
	return b, p
}

func TestPlansRestore(t *testing.T) {
	r := rand.New(rand.NewSource(12))
	restored := 0
	for range 3000 {
		b, p := random(r)
		p, _, _ = shed.Protect(b, p)
		goal := restore.Goal(b, p)
		var rest []int
		for bus, in := range goal {
			if !in && !board.Broken(p, api.PartBus, bus) {
				rest = append(rest, bus)
			}
		}
		if len(rest) > 0 && !restore.Hopeless(b, p, rest) {
			t.Fatalf("%v, %v: %v is not hopeless", b, p, rest)
		}
		l, e := restore.Plan(b, p)
		if e != api.OK {
			if e == api.ErrNone && slices.Contains(goal, true) && !restore.Restored(b, p) {
				t.Fatalf("%v, %v: no plan", b, p)
			}
			continue
		}
		restored++
		if len(l) > restore.Bound(b) {
			t.Fatalf("%v, %v: %d acts", b, p, len(l))
		}
		time := 10
		for n, a := range l {
			q, next, done, e := restore.Run(b, p, time, []api.Act{a})
			if e != api.OK || done != 1 || sync.Bad(b, p, q) {
				t.Fatalf("%v, %v: %v, act %d, error %d", b, p, l, n, e)
			}
			p, time = q, next
		}
		if !restore.Restored(b, p) {
			t.Fatalf("%v: %v is not restored", b, p)
		}
		for bus := range b.Buses {
			if balance.Overloaded(b, p, bus) {
				t.Fatalf("%v: %v is overloaded", b, p)
			}
		}
	}
	if restored < 500 {
		t.Errorf("only %d plans", restored)
	}
}
