package sync_test

import (
	"fmt"
	"math"
	"math/rand"
	"slices"
	"testing"

	"dynpos/api"
	"dynpos/board"
	"dynpos/sync"
)

func same(t *testing.T, name string, got, want any) {
	t.Helper()
	if g, w := fmt.Sprint(got), fmt.Sprint(want); g != w {
		t.Errorf("%s: %s, not %s", name, g, w)
	}
}

// two has two buses with a tie (0), three generators (1: bus 0, 2: bus 1, 3: bus 1), and a consumer at both (4, 5).
func two() api.Board {
	return api.Board{Buses: 2, Breakers: []api.Breaker{{Kind: api.BreakerTie, A: 0, B: 1}, {Kind: api.BreakerSource, A: 0, B: 0}, {Kind: api.BreakerSource, A: 1, B: 1}, {Kind: api.BreakerSource, A: 1, B: 2}, {Kind: api.BreakerConsumer, A: 0, B: 0}, {Kind: api.BreakerConsumer, A: 1, B: 0}},
		Sources: []api.Source{{Rating: 100}, {Rating: 100}, {Rating: 100}}, Consumers: []api.Consumer{{Load: 60, Thruster: -1}}, Phase: 50, Frequency: 20}
}

// with is a state with generators that are ready, at some phases, and some closed breakers.
func with(phases [3]int, closed ...int) api.Power {
	p := api.Power{Closed: make([]bool, 6), Limits: []int{60}}
	for _, phase := range phases {
		p.Sources = append(p.Sources, api.Running{State: api.SourceReady, Frequency: 5000, Phase: phase})
	}
	for _, i := range closed {
		p.Closed[i] = true
	}
	return p
}

func TestAgree(t *testing.T) {
	b := two()
	x := api.Running{Frequency: 5000, Phase: 3580}
	for _, y := range []struct {
		frequency, phase int
		want             bool
	}{{5000, 3580, true}, {5020, 30, true}, {4980, 3530, true}, {5021, 3580, false}, {4979, 3580, false}, {5000, 31, false}, {5000, 3529, false}, {5000, 3630, true}, {5000, -20, true}, {-1, 0, false}, {6001, 0, false}, {math.MinInt, 3580, false}} {
		o := api.Running{Frequency: y.frequency, Phase: y.phase}
		same(t, fmt.Sprint(y), []bool{sync.Agree(b, x, o), sync.Agree(b, o, x)}, []bool{y.want, y.want})
	}
	b.Frequency = 10000
	same(t, "the least and the greatest frequency", sync.Agree(b, api.Running{Frequency: 0}, api.Running{Frequency: 6000}), true)
	same(t, "6001 and a wide window", sync.Agree(b, api.Running{Frequency: 6001}, api.Running{Frequency: 6000}), false)
}

func TestLeader(t *testing.T) {
	p := with([3]int{}, 2, 3)
	for _, x := range []struct {
		p    api.Power
		bus  int
		want int
		ok   bool
	}{{p, 1, 1, true}, {p, 0, 0, false}, {p, 2, 0, false}, {p, -1, 0, false}, {with([3]int{}, 0, 1, 2, 3), 1, 0, true}, {with([3]int{}, 0, 3), 0, 2, true}, {api.Power{}, 0, 0, false}} {
		got, ok := sync.Leader(two(), x.p, x.bus)
		same(t, fmt.Sprint(x), []any{got, ok}, []any{x.want, x.ok})
	}
}

func TestMay(t *testing.T) {
	broken := func(p api.Power, kind, number int) api.Power {
		p.Broken = []api.Part{{Kind: kind, Number: number}}
		return p
	}
	off := with([3]int{})
	off.Sources[0].State = api.SourceStarting
	for i, x := range []struct {
		p       api.Power
		breaker int
		want    api.Errno
	}{
		{with([3]int{}), -1, api.ErrUnknown}, {with([3]int{}), 6, api.ErrUnknown}, {api.Power{}, 99, api.ErrShape},
		{with([3]int{}, 0), 0, api.ErrState}, {broken(with([3]int{}), 2, 0), 0, api.ErrState}, {broken(with([3]int{}), 3, 0), 0, api.ErrState}, {broken(with([3]int{}), 3, 1), 0, api.ErrState}, {broken(with([3]int{}), 3, 0), 1, api.ErrState}, {broken(with([3]int{}), 1, 0), 1, api.ErrState}, {broken(with([3]int{}), 1, 1), 1, api.OK}, {off, 1, api.ErrState},
		{broken(with([3]int{}), 4, 0), 4, api.ErrState}, {broken(with([3]int{}), 3, 0), 4, api.ErrState}, {broken(with([3]int{}), 3, 1), 4, api.OK}, {with([3]int{}, 5), 4, api.ErrState}, {with([3]int{}), 4, api.OK}, {with([3]int{0, 900}, 1, 2), 5, api.OK},
		{with([3]int{10, 100}, 1, 2), 0, api.ErrInterlock}, {with([3]int{50, 100}, 1, 2), 0, api.OK}, {with([3]int{10, 900}, 1), 0, api.OK}, {with([3]int{10, 900}, 2), 0, api.OK}, {with([3]int{10, 900}), 0, api.OK},
		{with([3]int{0, 900}, 1), 2, api.OK}, {with([3]int{0, 900}, 0, 1), 2, api.ErrInterlock}, {with([3]int{0, 50}, 0, 1), 2, api.OK}, {with([3]int{0, 0, 51}, 2), 3, api.ErrInterlock}, {broken(with([3]int{0, 900}, 0, 1), 1, 1), 2, api.ErrState},
	} {
		same(t, fmt.Sprint(i), sync.May(two(), x.p, x.breaker), x.want)
		q, e := sync.Close(two(), x.p, x.breaker)
		same(t, fmt.Sprint(i), e, x.want)
		if e != api.OK {
			same(t, fmt.Sprint(i), q, api.Power{})
		} else if !q.Closed[x.breaker] || x.p.Closed[x.breaker] {
			t.Errorf("%d: the breaker is not closed in the result alone", i)
		}
	}
}

func TestTieToADeadBus(t *testing.T) {
	b := two()
	b.Breakers[1].A, b.Breakers[2].A = 1, 0
	same(t, "a generator that is not connected does not matter", sync.May(b, with([3]int{900, 10, 10}, 2), 0), api.OK)
}

func TestSecondTieInAnIsland(t *testing.T) {
	b := two()
	b.Breakers = append(b.Breakers, api.Breaker{Kind: api.BreakerTie, A: 0, B: 1})
	p := with([3]int{10, 100}, 0, 1, 2)
	p.Closed = append(p.Closed, false)
	same(t, "a tie within an island", sync.May(b, p, 6), api.OK)
}

func TestFollowAndClose(t *testing.T) {
	p := with([3]int{10, 20, 30}, 0, 1, 3)
	p.Sources[2].Frequency = 5010
	q, e := sync.Follow(two(), p)
	want := with([3]int{10, 20, 10}, 0, 1, 3)
	same(t, "Follow", []any{q, e}, []any{want, api.OK})
	same(t, "the argument", p.Sources[2], api.Running{State: 2, Frequency: 5010, Phase: 30})
	p = with([3]int{10, 40, 40}, 1, 2, 3)
	q, e = sync.Close(two(), p, 0)
	same(t, "Close", []any{q, e}, []any{with([3]int{10, 10, 10}, 0, 1, 2, 3), api.OK})
	q, e = sync.Follow(two(), api.Power{})
	same(t, "no state", []any{q, e}, []any{api.Power{}, api.ErrShape})
}

func TestOpen(t *testing.T) {
	q, e := sync.Open(two(), with([3]int{10, 20, 30}, 0, 1), 0)
	same(t, "Open", []any{q, e}, []any{with([3]int{10, 20, 30}, 1), api.OK})
	broken := with([3]int{}, 0)
	broken.Broken = []api.Part{{Kind: api.PartBreaker, Number: 0}}
	for _, x := range []struct {
		p       api.Power
		breaker int
		want    api.Errno
	}{{with([3]int{}), 0, api.ErrState}, {broken, 0, api.ErrState}, {with([3]int{}), 6, api.ErrUnknown}, {with([3]int{}), -1, api.ErrUnknown}, {api.Power{}, 9, api.ErrShape}} {
		q, e := sync.Open(two(), x.p, x.breaker)
		same(t, fmt.Sprint(x), []any{q, e}, []any{api.Power{}, x.want})
	}
}

func TestMatch(t *testing.T) {
	p := with([3]int{10, 100, 100}, 1, 2, 3)
	p.Sources[0].Frequency = 5005
	q, e := sync.Match(two(), p, 1, 0)
	want := with([3]int{10, 10, 10}, 1, 2, 3)
	want.Sources[0].Frequency, want.Sources[1].Frequency, want.Sources[2].Frequency = 5005, 5005, 5005
	same(t, "connected", []any{q, e}, []any{want, api.OK})
	same(t, "then the tie", sync.May(two(), q, 0), api.OK)
	q, e = sync.Match(two(), with([3]int{10, 100, 200}, 1, 3), 1, 0)
	same(t, "not connected", []any{q, e}, []any{with([3]int{10, 10, 200}, 1, 3), api.OK})
	q, e = sync.Match(two(), with([3]int{10, 100, 200}, 2), 0, 1)
	same(t, "the first one", []any{q, e}, []any{with([3]int{100, 100, 200}, 2), api.OK})
	off := with([3]int{}, 1)
	off.Sources[1].State = api.SourceOff
	for _, x := range []struct {
		p           api.Power
		source, bus int
		want        api.Errno
	}{{off, 1, 0, api.ErrState}, {off, 2, 1, api.ErrState}, {off, 3, 0, api.ErrUnknown}, {off, -1, 0, api.ErrUnknown}, {off, 1, 2, api.ErrUnknown}, {off, 1, -1, api.ErrUnknown}, {api.Power{}, 9, 9, api.ErrShape}} {
		q, e := sync.Match(two(), x.p, x.source, x.bus)
		same(t, fmt.Sprint(x), []any{q, e}, []any{api.Power{}, x.want})
	}
}

func TestTurn(t *testing.T) {
	p := with([3]int{10, 10, 10})
	p.Sources[0].Frequency, p.Sources[1].Frequency, p.Sources[2].Frequency, p.Sources[2].State = 4999, 5100, 5001, api.SourceStarting
	q, e := sync.Turn(two(), p)
	same(t, "phases", []any{q.Sources[0].Phase, q.Sources[1].Phase, q.Sources[2].Phase, e}, []any{3574, 10, 10, api.OK})
	p.Sources[1].Frequency = 5002
	q, _ = sync.Turn(two(), p)
	same(t, "72 on", q.Sources[1].Phase, 82)
	q, e = sync.Turn(two(), api.Power{})
	same(t, "no state", []any{q, e}, []any{api.Power{}, api.ErrShape})
}

func TestBad(t *testing.T) {
	for i, x := range []struct {
		p, q api.Power
		want bool
	}{
		{with([3]int{10, 100}, 1, 2), with([3]int{10, 10}, 0, 1, 2), true},        // two islands become one
		{with([3]int{10, 60}, 1, 2), with([3]int{10, 10}, 0, 1, 2), false},        // they agree
		{with([3]int{10, 100}, 0, 1, 2), with([3]int{10, 10}, 0, 1, 2), false},    // they were in one island
		{with([3]int{10, 100}, 0, 1), with([3]int{10, 10}, 0, 1, 2), true},        // one is new
		{with([3]int{10, 60}, 0, 1), with([3]int{10, 10}, 0, 1, 2), false},        // the new one agrees
		{with([3]int{10, 100}), with([3]int{10, 10}, 0, 1, 2), true},              // both are new
		{with([3]int{0, 100, 100}), with([3]int{10, 10}, 1, 2, 3), false},         // in two islands
		{with([3]int{0, 100, 900}), with([3]int{10, 10}, 1, 2, 3), true},          // two of them in one
		{with([3]int{10, 100}, 0, 1, 2), with([3]int{10, 100}, 1, 2), false},      // a tie is opened
		{with([3]int{10, 100}, 0, 1, 2), with([3]int{10, 100}, 0, 1), false},      // one is gone
		{with([3]int{10, 100}, 1), with([3]int{10, 100}, 0, 2), false},            // the other one took over
		{with([3]int{10, 100}, 1, 2), api.Power{}, false},                         // no state
		{api.Power{}, with([3]int{10, 100}, 0, 1, 2), false},                      // no state
		{with([3]int{10, 100, 10}, 1, 3), with([3]int{10, 10}, 0, 1, 3), false},   // 1 is not connected
		{with([3]int{10, 100, 10}, 1, 3), with([3]int{10, 10}, 0, 1, 2, 3), true}, // now it is
	} {
		same(t, fmt.Sprint(i), sync.Bad(two(), x.p, x.q), x.want)
	}
}

func TestNothingIsBad(t *testing.T) {
	r := rand.New(rand.NewSource(9))
	for range 300 {
		p := with([3]int{r.Intn(200), r.Intn(200), r.Intn(200)})
		for range 30 {
			var q api.Power
			var e api.Errno
			switch n := r.Intn(6); r.Intn(5) {
			case 0, 1:
				q, e = sync.Close(two(), p, n)
			case 2:
				q, e = sync.Open(two(), p, n)
			case 3:
				q, e = sync.Match(two(), p, n, r.Intn(2))
			case 4:
				q, e = sync.Turn(two(), p)
			}
			if e != api.OK {
				continue
			}
			if again, _ := sync.Follow(two(), q); board.State(two(), q) != api.OK || sync.Bad(two(), p, q) || !slices.Equal(again.Sources, q.Sources) {
				t.Fatalf("%v became %v", p, q)
			}
			p = q
		}
	}
}
