package board_test

import (
	"fmt"
	"math"
	"math/rand"
	"slices"
	"testing"

	"dynpos/api"
	"dynpos/board"
)

func same(t *testing.T, name string, got, want any) {
	t.Helper()
	if g, w := fmt.Sprint(got), fmt.Sprint(want); g != w {
		t.Errorf("%s: %s, not %s", name, g, w)
	}
}

// three has three buses in a row, a generator at the first and at the last one, and two consumers; the first consumer can be fed by the first two buses.
func three() api.Board {
	return api.Board{Buses: 3,
		Breakers:  []api.Breaker{{Kind: api.BreakerTie, A: 0, B: 1}, {Kind: api.BreakerTie, A: 1, B: 2}, {Kind: api.BreakerSource, A: 0, B: 0}, {Kind: api.BreakerSource, A: 2, B: 1}, {Kind: api.BreakerConsumer, A: 0, B: 0}, {Kind: api.BreakerConsumer, A: 1, B: 0}, {Kind: api.BreakerConsumer, A: 2, B: 1}},
		Sources:   []api.Source{{Rating: 100, Least: 10, Start: 5}, {Rating: 200}},
		Consumers: []api.Consumer{{Load: 60, Least: 20, Thruster: -1}, {Load: 70, Thruster: 3, Preference: 15, Needs: []int{0}}},
		Phase:     50, Frequency: 20}
}

// dark is the state of it with all breakers open.
func dark() api.Power {
	return api.Power{Closed: make([]bool, 7), Sources: []api.Running{{Frequency: 5000}, {Frequency: 5000}}, Limits: []int{60, 70}}
}

func lit(closed ...int) api.Power {
	p := dark()
	for _, i := range closed {
		p.Closed[i] = true
	}
	p.Sources[0].State, p.Sources[1].State = api.SourceReady, api.SourceReady
	return p
}

func TestCheck(t *testing.T) {
	same(t, "three", board.Check(three()), api.OK)
	same(t, "one bus", board.Check(api.Board{Buses: 1}), api.OK)
	edge := three()
	edge.Phase, edge.Frequency, edge.Sources[0], edge.Consumers[0] = 1800, 6000, api.Source{Rating: 50000, Least: 50000, Start: 600}, api.Consumer{Load: 50000, Least: 50000, Thruster: 7, Preference: 15}
	same(t, "greatest numbers", board.Check(edge), api.OK)
	edge.Breakers = append(edge.Breakers, api.Breaker{Kind: api.BreakerTie, A: 0, B: 1})
	same(t, "two ties", board.Check(edge), api.OK)
	needy := api.Board{Buses: 1}
	for i := range 6 {
		needy.Breakers = append(needy.Breakers, api.Breaker{Kind: api.BreakerConsumer, B: i})
		needy.Consumers = append(needy.Consumers, api.Consumer{Thruster: -1})
	}
	needy.Consumers[5].Needs = []int{0, 1, 2, 4}
	same(t, "four needs", board.Check(needy), api.OK)
	needy.Consumers[5].Needs = []int{0, 1, 2, 3, 4}
	same(t, "five needs", board.Check(needy), api.ErrPlant)
}

// wrong has changes of the board with the error that they lead to.
var wrong = []struct {
	change func(b *api.Board)
	want   api.Errno
}{
	{func(b *api.Board) { b.Buses = 0 }, api.ErrLimit}, {func(b *api.Board) { b.Buses = 7 }, api.ErrLimit}, {func(b *api.Board) { b.Breakers = make([]api.Breaker, 25) }, api.ErrLimit}, {func(b *api.Board) { b.Sources = make([]api.Source, 9) }, api.ErrLimit}, {func(b *api.Board) { b.Consumers = make([]api.Consumer, 17) }, api.ErrLimit},
	{func(b *api.Board) { b.Phase = -1 }, api.ErrPlant}, {func(b *api.Board) { b.Phase = 1801 }, api.ErrPlant}, {func(b *api.Board) { b.Frequency = -1 }, api.ErrPlant}, {func(b *api.Board) { b.Frequency = 6001 }, api.ErrPlant},
	{func(b *api.Board) { b.Breakers[0].Kind = 0 }, api.ErrPlant}, {func(b *api.Board) { b.Breakers[0].Kind = 4 }, api.ErrPlant}, {func(b *api.Board) { b.Breakers[0].A = -1 }, api.ErrPlant}, {func(b *api.Board) { b.Breakers[0].A = 1 }, api.ErrPlant}, {func(b *api.Board) { b.Breakers[0].B = 3 }, api.ErrPlant}, {func(b *api.Board) { b.Breakers[1].A = 2; b.Breakers[1].B = 1 }, api.ErrPlant},
	{func(b *api.Board) { b.Breakers[2].A = 3 }, api.ErrPlant}, {func(b *api.Board) { b.Breakers[2].B = 2 }, api.ErrPlant}, {func(b *api.Board) { b.Breakers[2].B = -1 }, api.ErrPlant}, {func(b *api.Board) { b.Breakers[2].B = 1 }, api.ErrPlant}, {func(b *api.Board) { b.Breakers = append(b.Breakers, b.Breakers[2]) }, api.ErrPlant}, {func(b *api.Board) { b.Sources = append(b.Sources, b.Sources[0]) }, api.ErrPlant},
	{func(b *api.Board) { b.Breakers = append(b.Breakers, api.Breaker{Kind: api.BreakerSource, B: 2}) }, api.ErrPlant}, {func(b *api.Board) { b.Breakers = append(b.Breakers, api.Breaker{Kind: api.BreakerConsumer, B: 2}) }, api.ErrPlant}, {func(b *api.Board) { b.Breakers[5].A = 0 }, api.ErrPlant}, {func(b *api.Board) { b.Breakers[6].B = 2 }, api.ErrPlant}, {func(b *api.Board) { b.Breakers[6].B = 0 }, api.ErrPlant}, {func(b *api.Board) { b.Consumers = append(b.Consumers, b.Consumers[0]) }, api.ErrPlant},
	{func(b *api.Board) { b.Sources[0].Rating = 0 }, api.ErrPlant}, {func(b *api.Board) { b.Sources[0].Rating = 50001 }, api.ErrPlant}, {func(b *api.Board) { b.Sources[0].Least = -1 }, api.ErrPlant}, {func(b *api.Board) { b.Sources[0].Least = 101 }, api.ErrPlant}, {func(b *api.Board) { b.Sources[0].Start = -1 }, api.ErrPlant}, {func(b *api.Board) { b.Sources[0].Start = 601 }, api.ErrPlant},
	{func(b *api.Board) { b.Consumers[0].Load = -1 }, api.ErrPlant}, {func(b *api.Board) { b.Consumers[0].Load = 50001 }, api.ErrPlant}, {func(b *api.Board) { b.Consumers[0].Least = -1 }, api.ErrPlant}, {func(b *api.Board) { b.Consumers[0].Least = 61 }, api.ErrPlant}, {func(b *api.Board) { b.Consumers[0].Preference = -1 }, api.ErrPlant}, {func(b *api.Board) { b.Consumers[0].Preference = 16 }, api.ErrPlant},
	{func(b *api.Board) { b.Consumers[0].Thruster = -2 }, api.ErrPlant}, {func(b *api.Board) { b.Consumers[0].Thruster = 8 }, api.ErrPlant}, {func(b *api.Board) { b.Consumers[0].Needs = []int{0} }, api.ErrPlant}, {func(b *api.Board) { b.Consumers[1].Needs = []int{-1} }, api.ErrPlant}, {func(b *api.Board) { b.Consumers[1].Needs = []int{0, 0} }, api.ErrPlant}, {func(b *api.Board) { b.Consumers[1].Needs = []int{0, 1, 2, 3, 4} }, api.ErrPlant},
}

func TestWrongBoards(t *testing.T) {
	for i, x := range wrong {
		b := three()
		x.change(&b)
		p := lit(0, 1, 2, 4)
		name := fmt.Sprintf("wrong board %d", i)
		same(t, name, board.Check(b), x.want)
		same(t, name, board.State(b, p), x.want)
		nothing(t, name, b, p)
		same(t, name, board.Find(b, api.BreakerTie, 1), []int{})
	}
}

// nothing checks that all functions answer nothing.
func nothing(t *testing.T, name string, b api.Board, p api.Power) {
	t.Helper()
	same(t, name, board.Islands(b, p), []int{})
	x, ok := board.Of(b, p, 0)
	same(t, name, []any{x, ok}, []any{api.Island{}, false})
	n, ok := board.Connected(b, p, 0)
	same(t, name, []any{n, ok}, []any{0, false})
	n, ok = board.Fed(b, p, 0)
	same(t, name, []any{n, ok}, []any{0, false})
	same(t, name, board.Live(b, p, 0), false)
}

func TestState(t *testing.T) {
	same(t, "dark", board.State(three(), dark()), api.OK)
	same(t, "lit", board.State(three(), lit(0, 1, 2, 3, 4, 6)), api.OK)
	p := dark()
	p.Broken = []api.Part{{Kind: 1, Number: 0}, {Kind: 1, Number: 1}, {Kind: 2, Number: 6}, {Kind: 3, Number: 0}, {Kind: 3, Number: 2}, {Kind: 4, Number: 0}, {Kind: 4, Number: 1}}
	p.Sources[0] = api.Running{State: 3, Since: api.MaxTime, Frequency: 6000, Phase: 3599}
	p.Limits = []int{0, 70}
	same(t, "edges", board.State(three(), p), api.OK)
	for i, x := range []struct {
		change func(p *api.Power)
		want   api.Errno
	}{
		{func(p *api.Power) { p.Closed = p.Closed[1:] }, api.ErrShape}, {func(p *api.Power) { p.Sources = nil }, api.ErrShape}, {func(p *api.Power) { p.Limits = append(p.Limits, 0) }, api.ErrShape}, {func(p *api.Power) { p.Limits = nil; p.Sources[0].State = 9 }, api.ErrShape},
		{func(p *api.Power) { p.Sources[1].State = -1 }, api.ErrState}, {func(p *api.Power) { p.Sources[1].State = 4 }, api.ErrState}, {func(p *api.Power) { p.Sources[1].Since = -1 }, api.ErrState}, {func(p *api.Power) { p.Sources[1].Since = api.MaxTime + 1 }, api.ErrState}, {func(p *api.Power) { p.Sources[1].Frequency = -1 }, api.ErrState}, {func(p *api.Power) { p.Sources[1].Frequency = 6001 }, api.ErrState}, {func(p *api.Power) { p.Sources[1].Phase = -1 }, api.ErrState}, {func(p *api.Power) { p.Sources[1].Phase = 3600 }, api.ErrState},
		{func(p *api.Power) { p.Limits[1] = -1 }, api.ErrState}, {func(p *api.Power) { p.Limits[0] = 61 }, api.ErrState}, {func(p *api.Power) { p.Closed[4], p.Closed[5] = true, true }, api.ErrState},
		{func(p *api.Power) { p.Broken = []api.Part{{Kind: 0}} }, api.ErrState}, {func(p *api.Power) { p.Broken = []api.Part{{Kind: 5}} }, api.ErrState}, {func(p *api.Power) { p.Broken = []api.Part{{Kind: 1, Number: 2}} }, api.ErrState}, {func(p *api.Power) { p.Broken = []api.Part{{Kind: 2, Number: 7}} }, api.ErrState}, {func(p *api.Power) { p.Broken = []api.Part{{Kind: 3, Number: 3}} }, api.ErrState}, {func(p *api.Power) { p.Broken = []api.Part{{Kind: 4, Number: -1}} }, api.ErrState}, {func(p *api.Power) { p.Broken = []api.Part{{Kind: 4, Number: 2}} }, api.ErrState},
		{func(p *api.Power) { p.Broken = []api.Part{{Kind: 1}, {Kind: 1}} }, api.ErrState}, {func(p *api.Power) { p.Broken = []api.Part{{Kind: 2}, {Kind: 1}} }, api.ErrState}, {func(p *api.Power) { p.Broken = []api.Part{{Kind: 1, Number: 1}, {Kind: 1, Number: 0}} }, api.ErrState}, {func(p *api.Power) { p.Broken = []api.Part{{Kind: math.MinInt, Number: math.MaxInt}} }, api.ErrState},
	} {
		p := lit(0, 2)
		x.change(&p)
		name := fmt.Sprintf("wrong state %d", i)
		same(t, name, board.State(three(), p), x.want)
		nothing(t, name, three(), p)
	}
}

func TestTooManyBroken(t *testing.T) {
	b := api.Board{Buses: 6, Sources: make([]api.Source, 8), Consumers: make([]api.Consumer, 16)}
	p := api.Power{Sources: make([]api.Running, 8), Limits: make([]int, 16), Closed: make([]bool, 24)}
	for i := range b.Sources {
		b.Sources[i].Rating = 1
		b.Breakers = append(b.Breakers, api.Breaker{Kind: api.BreakerSource, B: i})
	}
	for i := range b.Consumers {
		b.Breakers = append(b.Breakers, api.Breaker{Kind: api.BreakerConsumer, B: i})
	}
	for i := range 24 {
		p.Broken = append(p.Broken, api.Part{Kind: api.PartBreaker, Number: i})
	}
	for i := range 8 {
		p.Broken = append(p.Broken, api.Part{Kind: api.PartConsumer, Number: i})
	}
	same(t, "32 broken parts", board.State(b, p), api.OK)
	p.Broken = append(p.Broken, api.Part{Kind: api.PartConsumer, Number: 8})
	same(t, "33 broken parts", board.State(b, p), api.ErrState)
}

func TestBroken(t *testing.T) {
	p := api.Power{Broken: []api.Part{{Kind: 9, Number: 5}, {Kind: 1, Number: 2}}}
	same(t, "Broken", []bool{board.Broken(p, 9, 5), board.Broken(p, 1, 2), board.Broken(p, 1, 5), board.Broken(api.Power{}, 0, 0)}, []bool{true, true, false, false})
}

func TestIslands(t *testing.T) {
	same(t, "all open", board.Islands(three(), lit()), []api.Island{{Buses: []int{0}}, {Buses: []int{1}}, {Buses: []int{2}}})
	p := lit(1, 2, 3, 5, 6)
	same(t, "two islands", board.Islands(three(), p), []api.Island{{Buses: []int{0}, Sources: []int{0}}, {Buses: []int{1, 2}, Sources: []int{1}, Consumers: []int{0, 1}}})
	p.Sources[1].State = api.SourceStarting
	same(t, "not connected", board.Islands(three(), p), []api.Island{{Buses: []int{0}, Sources: []int{0}}, {Buses: []int{1, 2}, Consumers: []int{0, 1}}})
	same(t, "live", []bool{board.Live(three(), p, 0), board.Live(three(), p, 1), board.Live(three(), p, 2), board.Live(three(), p, 3), board.Live(three(), p, -1)}, []bool{true, false, false, false, false})
	x, ok := board.Of(three(), p, 2)
	same(t, "Of", []any{x, ok}, []any{api.Island{Buses: []int{1, 2}, Consumers: []int{0, 1}}, true})
	x, ok = board.Of(three(), p, 3)
	same(t, "Of no bus", []any{x, ok}, []any{api.Island{}, false})
	same(t, "one island", board.Islands(three(), lit(0, 1, 2, 3, 4)), []api.Island{{Buses: []int{0, 1, 2}, Sources: []int{0, 1}, Consumers: []int{0}}})
}

func TestConnectedAndFed(t *testing.T) {
	p := lit(2, 5)
	p.Sources[0].State = api.SourceReady
	for _, x := range []struct {
		f      func(api.Board, api.Power, int) (int, bool)
		number int
		bus    int
		ok     bool
	}{{board.Connected, 0, 0, true}, {board.Connected, 1, 0, false}, {board.Connected, -1, 0, false}, {board.Connected, 2, 0, false}, {board.Fed, 0, 1, true}, {board.Fed, 1, 0, false}, {board.Fed, 2, 0, false}, {board.Fed, -1, 0, false}} {
		bus, ok := x.f(three(), p, x.number)
		same(t, fmt.Sprint(x.number), []any{bus, ok}, []any{x.bus, x.ok})
	}
	p.Sources[0].State = api.SourceOff
	bus, ok := board.Connected(three(), p, 0)
	same(t, "a generator that is off", []any{bus, ok}, []any{0, false})
	bus, ok = board.Connected(three(), lit(2, 3), 1)
	same(t, "the last generator", []any{bus, ok}, []any{2, true})
}

func TestFind(t *testing.T) {
	for _, x := range []struct {
		kind, number int
		want         []int
	}{{api.BreakerTie, 1, []int{0, 1}}, {api.BreakerTie, 0, []int{0}}, {api.BreakerTie, 2, []int{1}}, {api.BreakerTie, 3, nil}, {api.BreakerSource, 1, []int{3}}, {api.BreakerSource, 2, nil}, {api.BreakerConsumer, 0, []int{4, 5}}, {api.BreakerConsumer, 1, []int{6}}, {0, 0, nil}, {4, 0, nil}} {
		same(t, fmt.Sprint(x), board.Find(three(), x.kind, x.number), x.want)
	}
}

func TestTiesMakeIslands(t *testing.T) {
	r := rand.New(rand.NewSource(8))
	for range 300 {
		b := api.Board{Buses: 6}
		for range 8 {
			a := r.Intn(5)
			b.Breakers = append(b.Breakers, api.Breaker{Kind: api.BreakerTie, A: a, B: a + 1 + r.Intn(5-a)})
		}
		p := api.Power{Closed: make([]bool, 8)}
		for i := range p.Closed {
			p.Closed[i] = r.Intn(3) == 0
		}
		var all []int
		for _, x := range board.Islands(b, p) {
			all = append(all, x.Buses...)
			for _, bus := range x.Buses {
				if y, _ := board.Of(b, p, bus); !slices.Equal(x.Buses, y.Buses) {
					t.Fatalf("%v: the island of %d is %v", x, bus, y)
				}
			}
		}
		slices.Sort(all)
		same(t, "each bus is in one island", all, []int{0, 1, 2, 3, 4, 5})
		before := len(board.Islands(b, p))
		i := r.Intn(8)
		p.Closed[i] = true
		if len(board.Islands(b, p)) > before {
			t.Fatal("closing a tie made more islands")
		}
	}
}
