package shed_test

import (
	"fmt"
	"math/rand"
	"slices"
	"testing"

	"dynpos/api"
	"dynpos/balance"
	"dynpos/board"
	"dynpos/shed"
)

func same(t *testing.T, name string, got, want any) {
	t.Helper()
	if g, w := fmt.Sprint(got), fmt.Sprint(want); g != w {
		t.Errorf("%s: %s, not %s", name, g, w)
	}
}

func open(l ...int) []api.Act {
	var acts []api.Act
	for _, i := range l {
		acts = append(acts, api.Act{Kind: api.ActOpen, Unit: i})
	}
	return acts
}

func limit(consumer, value int) api.Act {
	return api.Act{Kind: api.ActLimit, Unit: consumer, Value: value}
}

// one has one bus with a generator (breaker 0) and consumers with their loads, leasts and preferences (breakers 1 ..), all connected.
func one(rating int, consumers ...[3]int) (api.Board, api.Power) {
	b := api.Board{Buses: 1, Breakers: []api.Breaker{{Kind: api.BreakerSource}}, Sources: []api.Source{{Rating: rating}}}
	p := api.Power{Closed: []bool{true}, Sources: []api.Running{{State: api.SourceReady, Frequency: 5000}}}
	for i, c := range consumers {
		b.Breakers = append(b.Breakers, api.Breaker{Kind: api.BreakerConsumer, B: i})
		b.Consumers = append(b.Consumers, api.Consumer{Load: c[0], Least: c[1], Preference: c[2], Thruster: -1})
		p.Closed, p.Limits = append(p.Closed, true), append(p.Limits, c[0])
	}
	return b, p
}

// two has two buses with a tie (0), generators at both (1, 2), and consumers: 0 at the first (3), 1 at the second one (4), 2 at both (5, 6).
func two() (api.Board, api.Power) {
	b := api.Board{Buses: 2, Breakers: []api.Breaker{{Kind: api.BreakerTie, A: 0, B: 1}, {Kind: api.BreakerSource, A: 0, B: 0}, {Kind: api.BreakerSource, A: 1, B: 1}, {Kind: api.BreakerConsumer, A: 0, B: 0}, {Kind: api.BreakerConsumer, A: 1, B: 1}, {Kind: api.BreakerConsumer, A: 0, B: 2}, {Kind: api.BreakerConsumer, A: 1, B: 2}},
		Sources: []api.Source{{Rating: 100}, {Rating: 100}}, Consumers: []api.Consumer{{Load: 60, Least: 20, Thruster: -1}, {Load: 70, Least: 70, Preference: 1, Thruster: -1}, {Load: 50, Preference: 2, Thruster: -1, Needs: []int{0, 1}}}}
	p := api.Power{Closed: []bool{true, true, true, true, true, true, false}, Sources: []api.Running{{State: api.SourceReady, Frequency: 5000, Phase: 7}, {State: api.SourceReady, Frequency: 5000, Phase: 7}}, Limits: []int{60, 70, 50}}
	return b, p
}

func TestOrder(t *testing.T) {
	b, _ := one(1, [3]int{5, 0, 3}, [3]int{5, 0, 1}, [3]int{5, 0, 3}, [3]int{5, 0, 0}, [3]int{5, 0, 1})
	same(t, "Order", shed.Order(b), []int{3, 1, 4, 0, 2})
	same(t, "no board", shed.Order(api.Board{}), []int{})
}

func TestServed(t *testing.T) {
	b, p := two()
	served := func(p api.Power) string {
		return fmt.Sprint(shed.Served(b, p, 0), shed.Served(b, p, 1), shed.Served(b, p, 2), shed.Served(b, p, 3), shed.Served(b, p, -1))
	}
	same(t, "all", served(p), "true true true false false")
	for _, x := range []struct {
		name   string
		change func(p *api.Power)
		want   string
	}{
		{"not fed", func(p *api.Power) { p.Closed[3] = false }, "false true false false false"}, {"broken", func(p *api.Power) { p.Broken = []api.Part{{Kind: api.PartConsumer, Number: 1}} }, "true false false false false"}, {"least", func(p *api.Power) { p.Limits[0] = 20 }, "true true true false false"}, {"too little", func(p *api.Power) { p.Limits[0] = 19 }, "false true false false false"},
		{"dead", func(p *api.Power) { p.Closed[0], p.Closed[2] = false, false }, "true false false false false"}, {"all dead", func(p *api.Power) { p.Sources[0].State, p.Sources[1].State = 0, 3 }, "false false false false false"}, {"alone", func(p *api.Power) { p.Closed[5] = false }, "true true false false false"}, {"no state", func(p *api.Power) { p.Closed[6] = true }, "false false false false false"},
	} {
		_, q := two()
		x.change(&q)
		same(t, x.name, served(q), x.want)
	}
}

func TestServedWithManyNeeds(t *testing.T) {
	var l [][3]int
	for range 16 {
		l = append(l, [3]int{1, 0, 0})
	}
	b, p := one(100, l...)
	for i := range b.Consumers {
		for n := max(0, i-4); n < i; n++ {
			b.Consumers[i].Needs = append(b.Consumers[i].Needs, n)
		}
	}
	same(t, "a long chain", shed.Served(b, p, 15), true)
	p.Closed[1] = false
	same(t, "a broken chain", shed.Served(b, p, 15), false)
}

func TestClear(t *testing.T) {
	for _, x := range []struct {
		name   string
		change func(p *api.Power)
		want   []api.Act
	}{
		{"whole", func(p *api.Power) {}, nil},
		{"broken generator", func(p *api.Power) { p.Broken = []api.Part{{Kind: api.PartSource, Number: 1}} }, open(2)},
		{"broken consumer", func(p *api.Power) { p.Broken = []api.Part{{Kind: api.PartConsumer, Number: 2}} }, open(5)},
		{"failed generator", func(p *api.Power) { p.Sources[0].State = api.SourceFailed }, open(1)},
		{"generator off, both", func(p *api.Power) { p.Sources[0].State, p.Sources[1].State = 0, 1 }, open(1, 2, 3, 4, 5)},
		{"broken bus", func(p *api.Power) { p.Broken = []api.Part{{Kind: api.PartBus, Number: 0}} }, open(0, 1, 3, 5)},
		{"the other bus", func(p *api.Power) { p.Broken = []api.Part{{Kind: api.PartBus, Number: 1}} }, open(0, 2, 4)},
		{"broken breaker", func(p *api.Power) { p.Broken = []api.Part{{Kind: api.PartBreaker, Number: 2}} }, nil},
		{"broken breakers, too", func(p *api.Power) {
			p.Broken = []api.Part{{Kind: api.PartSource, Number: 1}, {Kind: api.PartBreaker, Number: 2}, {Kind: api.PartBreaker, Number: 4}}
			p.Closed[0] = false
		}, open(2, 4)},
	} {
		b, p := two()
		x.change(&p)
		q, acts, e := shed.Clear(b, p)
		want := slices.Clone(p.Closed)
		for _, a := range x.want {
			want[a.Unit] = false
		}
		same(t, x.name, []any{acts, e, q.Closed, q.Limits, q.Broken, q.Sources}, []any{append([]api.Act{}, x.want...), api.OK, want, p.Limits, p.Broken, p.Sources})
	}
}

func TestClearFollows(t *testing.T) {
	b, p := two()
	p.Sources[1].Phase = 900
	q, acts, e := shed.Clear(b, p)
	same(t, "Clear", []any{len(acts), e, q.Sources[1].Phase, p.Sources[1].Phase}, []any{0, api.OK, 7, 900})
}

func TestShed(t *testing.T) {
	for _, x := range []struct {
		name      string
		rating    int
		consumers [][3]int
		want      []api.Act
	}{
		{"the example", 100, [][3]int{{60, 20, 0}, {70, 70, 1}}, []api.Act{limit(0, 30)}},
		{"not overloaded", 130, [][3]int{{60, 20, 0}, {70, 70, 1}}, nil},
		{"by the preference", 100, [][3]int{{60, 20, 1}, {70, 10, 0}}, []api.Act{limit(1, 40)}},
		{"two limits", 100, [][3]int{{60, 40, 0}, {70, 10, 1}}, []api.Act{limit(0, 40), limit(1, 60)}},
		{"a trip", 100, [][3]int{{60, 40, 0}, {70, 70, 1}}, append([]api.Act{limit(0, 40)}, open(1)...)},
		{"two trips", 60, [][3]int{{60, 40, 0}, {70, 70, 1}, {50, 50, 2}}, append([]api.Act{limit(0, 40)}, open(1, 2)...)},
		{"nothing to trip in front", 60, [][3]int{{0, 0, 0}, {30, 0, 0}, {70, 70, 1}}, append([]api.Act{limit(1, 0)}, open(3)...)},
	} {
		b, p := one(x.rating, x.consumers...)
		before := slices.Clone(p.Limits)
		q, acts, e := shed.Shed(b, p)
		same(t, x.name, []any{acts, e}, []any{append([]api.Act{}, x.want...), api.OK})
		same(t, x.name, []any{balance.Overloaded(b, q, 0), shed.Check(b, p, q), p.Limits}, []any{false, true, before})
	}
}

func TestShedSparesTheLimited(t *testing.T) {
	b, p := one(100, [3]int{60, 20, 0}, [3]int{70, 10, 1})
	p.Limits[0] = 15
	_, acts, _ := shed.Shed(b, p)
	same(t, "within the rating", acts, []api.Act{})
	b.Sources[0].Rating = 80
	q, acts, _ := shed.Shed(b, p)
	same(t, "one below its least stays", []any{acts, q.Limits}, []any{[]api.Act{limit(1, 65)}, []int{15, 65}})
}

func TestShedOpensBrokenBreakers(t *testing.T) {
	b, p := one(50, [3]int{60, 60, 0})
	p.Broken = []api.Part{{Kind: api.PartBreaker, Number: 1}}
	_, acts, _ := shed.Shed(b, p)
	same(t, "a broken breaker", acts, open(1))
}

func TestShedLooksAtEachIsland(t *testing.T) {
	b, p := two()
	p.Closed[0], b.Sources[1].Rating = false, 60
	q, acts, e := shed.Shed(b, p)
	same(t, "both islands", []any{acts, e, q.Limits}, []any{append([]api.Act{limit(0, 50)}, open(4)...), api.OK, []int{50, 70, 50}})
}

func TestProtect(t *testing.T) {
	b, p := two()
	p.Sources[1].State = api.SourceFailed
	q, acts, e := shed.Protect(b, p)
	want := append(open(2), limit(0, 20), limit(2, 10))
	same(t, "Protect", []any{acts, e, q.Limits, q.Closed}, []any{want, api.OK, []int{20, 70, 10}, []bool{true, true, false, true, true, true, false}})
	again, acts, e := shed.Protect(b, q)
	same(t, "twice", []any{again, acts, e}, []any{q, []api.Act{}, api.OK})
}

func TestErrors(t *testing.T) {
	b, p := two()
	p.Limits[0] = 61
	for i, f := range []func(api.Board, api.Power) (api.Power, []api.Act, api.Errno){shed.Clear, shed.Shed, shed.Protect} {
		q, acts, e := f(b, p)
		same(t, fmt.Sprint(i), []any{q, acts, e}, []any{api.Power{}, []api.Act{}, api.ErrState})
		_, _, e = f(api.Board{}, p)
		same(t, fmt.Sprint(i), e, api.ErrLimit)
	}
	_, good := two()
	same(t, "Check", []bool{shed.Check(b, p, p), shed.Check(b, good, p), shed.Check(b, p, good), shed.Check(b, good, good)}, []bool{false, false, false, true})
}

func TestCheckOfWrongStates(t *testing.T) {
	b, p := one(100, [3]int{60, 20, 0}, [3]int{70, 50, 1}, [3]int{0, 0, 2}, [3]int{10, 0, 3})
	for i, x := range []struct {
		limits []int
		open   []int
		want   bool
	}{
		{[]int{20, 70, 0, 10}, nil, true}, {[]int{30, 60, 0, 10}, nil, false}, {[]int{60, 70, 0, 10}, nil, false}, {[]int{20, 50, 0, 0}, nil, true}, {[]int{20, 60, 0, 0}, nil, false}, {[]int{60, 70, 0, 10}, []int{1}, true}, {[]int{60, 70, 0, 10}, []int{2}, false}, {[]int{20, 70, 0, 10}, []int{2}, false}, {[]int{0, 70, 0, 10}, []int{2}, true},
		{[]int{20, 70, 0, 10}, []int{4}, false}, {[]int{0, 0, 0, 0}, nil, true}, {[]int{0, 0, 0, 10}, []int{3}, true}, {[]int{60, 70, 0, 10}, []int{1, 2, 3, 4}, true}, {[]int{60, 70, 0, 10}, []int{0}, true}, {[]int{10, 70, 0, 10}, []int{3}, false},
	} {
		q := api.Power{Closed: slices.Clone(p.Closed), Sources: p.Sources, Limits: x.limits}
		for _, k := range x.open {
			q.Closed[k] = false
		}
		same(t, fmt.Sprint(i), shed.Check(b, p, q), x.want)
	}
	q, _, _ := shed.Protect(b, p)
	for i, change := range []func(q *api.Power){func(q *api.Power) { q.Sources = []api.Running{{State: 2, Frequency: 5001}} }, func(q *api.Power) { q.Broken = []api.Part{{Kind: 3}} }, func(q *api.Power) { q.Limits = []int{20, 71, 0, 10} }} {
		w := q
		change(&w)
		same(t, fmt.Sprintf("change %d", i), shed.Check(b, p, w), false)
	}
	same(t, "a limit that is not valid", shed.Check(b, p, api.Power{Closed: p.Closed, Sources: p.Sources, Limits: []int{-1, 50, 0, 0}}), false)
	one := api.Power{Closed: slices.Clone(p.Closed), Sources: p.Sources, Limits: []int{1, 50, 0, 0}}
	one.Closed[2] = false
	same(t, "one that takes 1 comes before one that is tripped", shed.Check(b, p, one), false)
	shut := api.Power{Closed: []bool{true, false, true, true, true}, Sources: p.Sources, Limits: []int{10, 70, 0, 10}}
	same(t, "closed, and not overloaded", shed.Check(b, shut, api.Power{Closed: p.Closed, Sources: p.Sources, Limits: shut.Limits}), false)
	opened := api.Power{Closed: slices.Clone(p.Closed), Sources: p.Sources, Limits: []int{20, 70, 0, 10}}
	opened.Closed[4] = false
	same(t, "closed again", shed.Check(b, opened, p), false)
	raised := q
	raised.Limits = []int{10, 70, 0, 10}
	same(t, "a limit that was raised", shed.Check(b, raised, q), false)
}

// random returns a board of up to four buses in a state.
func random(r *rand.Rand) (api.Board, api.Power) {
	b, p := api.Board{Buses: 1 + r.Intn(4), Phase: 1800, Frequency: 6000}, api.Power{}
	add := func(k api.Breaker) {
		b.Breakers, p.Closed = append(b.Breakers, k), append(p.Closed, r.Intn(4) > 0)
	}
	for i := range b.Buses {
		b.Sources, p.Sources = append(b.Sources, api.Source{Rating: 1 + r.Intn(100)}), append(p.Sources, api.Running{State: max(r.Intn(5)%4, r.Intn(3)), Frequency: 5000, Phase: r.Intn(2)})
		add(api.Breaker{Kind: api.BreakerSource, A: i, B: i})
		if i > 0 {
			add(api.Breaker{Kind: api.BreakerTie, A: r.Intn(i), B: i})
		}
	}
	for i := range r.Intn(8) {
		load := r.Intn(80)
		b.Consumers, p.Limits = append(b.Consumers, api.Consumer{Load: load, Least: r.Intn(load + 1), Preference: r.Intn(3), Thruster: -1}), append(p.Limits, r.Intn(load+1))
		add(api.Breaker{Kind: api.BreakerConsumer, A: r.Intn(b.Buses), B: i})
	}
	for kind, n := range [5]int{0, len(b.Sources), len(b.Breakers), b.Buses, len(b.Consumers)} {
		for i := range n {
			if r.Intn(10) == 0 {
				p.Broken = append(p.Broken, api.Part{Kind: kind, Number: i})
			}
		}
	}
	return b, p
}

func TestProtectOfManyStates(t *testing.T) {
	r := rand.New(rand.NewSource(11))
	for range 1500 {
		b, p := random(r)
		q, acts, e := shed.Protect(b, p)
		if e != api.OK || board.State(b, q) != api.OK || !shed.Check(b, p, q) {
			t.Fatalf("%v, %v: %v, error %d", b, p, q, e)
		}
		for bus := range b.Buses {
			if balance.Overloaded(b, q, bus) {
				t.Fatalf("%v, %v: %v is overloaded", b, p, q)
			}
		}
		if again, more, _ := shed.Protect(b, q); fmt.Sprint(again) != fmt.Sprint(q) || len(more) > 0 {
			t.Fatalf("%v, %v: again %v", b, p, more)
		}
		if n := len(acts) - 1; n >= 0 && acts[n].Kind == api.ActOpen && b.Breakers[acts[n].Unit].Kind == api.BreakerConsumer && !board.Broken(p, api.PartConsumer, b.Breakers[acts[n].Unit].B) && board.Live(b, q, b.Breakers[acts[n].Unit].A) {
			q.Closed[acts[n].Unit] = true
			if !balance.Overloaded(b, q, b.Breakers[acts[n].Unit].A) {
				t.Fatalf("%v, %v: the last trip was not needed", b, p)
			}
		}
	}
}
