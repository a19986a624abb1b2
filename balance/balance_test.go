package balance_test

import (
	"fmt"
	"math"
	"math/rand"
	"testing"

	"dynpos/api"
	"dynpos/balance"
)

func same(t *testing.T, name string, got, want any) {
	t.Helper()
	if g, w := fmt.Sprint(got), fmt.Sprint(want); g != w {
		t.Errorf("%s: %s, not %s", name, g, w)
	}
}

// plant has three buses; the first two are tied and have two generators, the third one is dead; each has a consumer.
func plant() (api.Board, api.Power) {
	b := api.Board{Buses: 3, Breakers: []api.Breaker{{Kind: api.BreakerTie, A: 0, B: 1}, {Kind: api.BreakerSource, A: 0, B: 0}, {Kind: api.BreakerSource, A: 1, B: 1}, {Kind: api.BreakerSource, A: 2, B: 2},
		{Kind: api.BreakerConsumer, A: 0, B: 0}, {Kind: api.BreakerConsumer, A: 1, B: 1}, {Kind: api.BreakerConsumer, A: 2, B: 2}},
		Sources: []api.Source{{Rating: 100}, {Rating: 50}, {Rating: 70}}, Consumers: []api.Consumer{{Load: 80, Thruster: -1}, {Load: 90, Thruster: -1}, {Load: 30, Thruster: -1}}}
	p := api.Power{Closed: []bool{true, true, true, true, true, true, true}, Sources: []api.Running{{State: api.SourceReady}, {State: api.SourceReady}, {State: api.SourceOff}}, Limits: []int{80, 71, 30}}
	return b, p
}

func TestLoadAndRating(t *testing.T) {
	b, p := plant()
	for bus, want := range map[int][3]any{0: {151, 150, true}, 1: {151, 150, true}, 2: {0, 0, false}, 3: {0, 0, false}, -1: {0, 0, false}} {
		same(t, fmt.Sprint(bus), []any{balance.Load(b, p, bus), balance.Rating(b, p, bus), balance.Overloaded(b, p, bus)}, want)
	}
	p.Limits[0] = 79
	same(t, "just not overloaded", balance.Overloaded(b, p, 1), false)
	p.Limits[0] = 81
	same(t, "no state", []any{balance.Load(b, p, 0), balance.Rating(b, p, 0), balance.Overloaded(b, p, 0)}, []any{0, 0, false})
}

// sum returns the sum of numbers.
func sum(l []int) int {
	s := 0
	for _, n := range l {
		s += n
	}
	return s
}

func TestSplit(t *testing.T) {
	for _, x := range []struct {
		total   int
		ratings []int
		want    []int
		e       api.Errno
	}{
		{10, []int{2, 2, 2}, []int{4, 3, 3}, api.OK}, {0, nil, nil, api.OK}, {0, []int{7}, []int{0}, api.OK}, {7, []int{1, 2, 4}, []int{1, 2, 4}, api.OK}, {8, []int{1, 2, 4}, []int{1, 2, 5}, api.OK}, {2, []int{1, 1, 1}, []int{1, 1, 0}, api.OK}, {5, []int{1, 3, 6}, []int{1, 1, 3}, api.OK}, {800000, []int{50000, 50000, 1}, []int{399996, 399996, 8}, api.OK},
		{1, nil, nil, api.ErrNone}, {-1, nil, nil, api.ErrRange}, {800001, nil, nil, api.ErrRange}, {1, []int{0}, nil, api.ErrRange}, {1, []int{1, 50001}, nil, api.ErrRange}, {-1, make([]int, 9), nil, api.ErrLimit}, {math.MinInt, []int{1}, nil, api.ErrRange},
	} {
		got, e := balance.Split(x.total, x.ratings)
		same(t, fmt.Sprint(x), []any{got, e}, []any{append([]int{}, x.want...), x.e})
		same(t, fmt.Sprint(x), balance.Check(x.total, x.ratings, got), x.e == api.OK)
	}
}

func TestSplitIsFair(t *testing.T) {
	r := rand.New(rand.NewSource(10))
	for range 2000 {
		var ratings []int
		for range 1 + r.Intn(8) {
			ratings = append(ratings, 1+r.Intn(30))
		}
		total := r.Intn(sum(ratings) + 1)
		l, e := balance.Split(total, ratings)
		if e != api.OK || sum(l) != total || !balance.Check(total, ratings, l) {
			t.Fatalf("%d, %v: %v, error %d", total, ratings, l, e)
		}
		for i, n := range l {
			if n > ratings[i] {
				t.Fatalf("%d, %v: %v", total, ratings, l)
			}
			for k := range l { // no greater remainder, and no equal one before it, went away empty
				up, down := n > total*ratings[i]/sum(ratings), l[k] == total*ratings[k]/sum(ratings)
				a, b := total*ratings[i]%sum(ratings), total*ratings[k]%sum(ratings)
				if up && down && (b > a || b == a && k < i) {
					t.Fatalf("%d, %v: %v", total, ratings, l)
				}
			}
		}
	}
}

func TestCheck(t *testing.T) {
	for _, x := range []struct {
		total      int
		ratings, l []int
		want       bool
	}{{10, []int{2, 2, 2}, []int{3, 4, 3}, true}, {10, []int{2, 2, 2}, []int{3, 3, 3}, false}, {10, []int{2, 2, 2}, []int{4, 4, 2}, false}, {10, []int{2, 2, 2}, []int{4, 4, 3}, false}, {10, []int{2, 2, 2}, []int{4, 3}, false}, {6, []int{1, 2}, []int{2, 4}, true}, {6, []int{1, 2}, []int{3, 3}, false}, {0, nil, nil, true}, {1, nil, nil, false}, {1, []int{0}, []int{1}, false}, {5, []int{1, 1}, []int{math.MaxInt, math.MinInt}, false}} {
		same(t, fmt.Sprint(x), balance.Check(x.total, x.ratings, x.l), x.want)
	}
}

func TestCheckByItsDefinition(t *testing.T) {
	ratings := []int{1, 2, 4}
	for total := range 16 {
		for a := -1; a < 12; a++ {
			for b := -1; b < 12; b++ {
				l := []int{a, b, total - a - b}
				want := true
				for i, n := range l {
					exact := total * ratings[i]
					want = want && (n == exact/7 || n == (exact+6)/7)
				}
				same(t, fmt.Sprint(total, l), balance.Check(total, ratings, l), want)
			}
		}
	}
}

func TestOf(t *testing.T) {
	b, p := plant()
	l, e := balance.Of(b, p)
	same(t, "Of", []any{l, e}, []any{[]int{101, 50, 0}, api.OK})
	p.Closed[0] = false
	l, e = balance.Of(b, p)
	same(t, "two islands", []any{l, e}, []any{[]int{80, 71, 0}, api.OK})
	p.Limits = nil
	l, e = balance.Of(b, p)
	same(t, "no state", []any{l, e}, []any{[]int{}, api.ErrShape})
}
