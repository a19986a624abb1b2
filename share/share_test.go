package share_test

import (
	"math"
	"math/rand"
	"slices"
	"testing"

	"dynpos/api"
	"dynpos/share"
)

func one(low, high, cost int) api.Share { return api.Share{Low: low, High: high, Cost: cost} }

// added returns the sum of numbers.
func added(x []int) int {
	sum := 0
	for _, n := range x {
		sum += n
	}
	return sum
}

func TestValid(t *testing.T) {
	for _, x := range []struct {
		l    []api.Share
		want api.Errno
	}{
		{nil, api.OK}, {slices.Repeat([]api.Share{one(0, 1, 1)}, 8), api.OK}, {[]api.Share{one(-5000, 5000, 100), one(3, 3, 1)}, api.OK}, {make([]api.Share, 9), api.ErrLimit}, {[]api.Share{one(0, 1, 1), one(2, 1, 1)}, api.ErrRange}, {[]api.Share{one(-5001, 0, 1)}, api.ErrRange}, {[]api.Share{one(0, 5001, 1)}, api.ErrRange}, {[]api.Share{one(0, 1, 0)}, api.ErrRange}, {[]api.Share{one(0, 1, 101)}, api.ErrRange},
	} {
		if e := share.Valid(x.l); e != x.want {
			t.Errorf("Valid of %v: %d", x.l, e)
		}
		if x.want == api.OK {
			continue
		}
		low, high, e1 := share.Reach(x.l)
		numbers, missing, e2 := share.Divide(x.l, math.MaxInt)
		sum, e3 := share.Sum(x.l, nil)
		p, q, ok := share.Price(x.l, make([]int, len(x.l)))
		if e1 != x.want || e2 != x.want || e3 != x.want || low != 0 || high != 0 || numbers != nil || missing != 0 || sum != 0 || p != 0 || q != 0 || ok || share.Check(x.l, 0, make([]int, len(x.l))) {
			t.Errorf("%v: %d %d %d", x.l, e1, e2, e3)
		}
	}
}

func TestReachAndSum(t *testing.T) {
	l := []api.Share{one(-3, 10, 2), one(4, 5, 7)}
	if low, high, e := share.Reach(l); low != 1 || high != 15 || e != api.OK {
		t.Errorf("Reach: %d, %d, error %d", low, high, e)
	}
	for _, x := range []struct {
		x    []int
		want int
		e    api.Errno
	}{{[]int{-3, 5}, 2*9 + 7*25, api.OK}, {[]int{0, 4}, 112, api.OK}, {[]int{1}, 0, api.ErrShape}, {nil, 0, api.ErrShape}, {[]int{-4, 4}, 0, api.ErrRange}, {[]int{0, 6}, 0, api.ErrRange}, {[]int{math.MaxInt, 4}, 0, api.ErrRange}} {
		if got, e := share.Sum(l, x.x); got != x.want || e != x.e {
			t.Errorf("Sum of %v: %d, error %d", x.x, got, e)
		}
	}
}

func TestDivide(t *testing.T) {
	for _, x := range []struct {
		l       []api.Share
		total   int
		want    []int
		missing int
	}{
		{[]api.Share{one(0, 10, 1), one(0, 10, 2)}, 9, []int{6, 3}, 0}, {[]api.Share{one(0, 10, 1), one(0, 10, 1)}, 5, []int{3, 2}, 0}, {[]api.Share{one(-10, 0, 1), one(-10, 0, 1)}, -5, []int{-2, -3}, 0},
		{[]api.Share{one(0, 10, 1), one(0, 10, 2)}, 25, []int{10, 10}, 5}, {[]api.Share{one(2, 10, 1), one(3, 10, 2)}, -500000, []int{2, 3}, -500005}, {[]api.Share{one(0, 10, 1)}, 500000, []int{10}, 499990}, {nil, 7, []int{}, 7}, {nil, 0, []int{}, 0}, {[]api.Share{one(5, 5, 3), one(-9, 9, 1)}, 0, []int{5, -5}, 0},
		{[]api.Share{one(-5000, 5000, 100), one(-5000, 5000, 1)}, 9999, []int{4999, 5000}, 0}, {[]api.Share{one(-5000, 5000, 100)}, -5000, []int{-5000}, 0}, {[]api.Share{one(-10, 10, 1), one(-10, 10, 1), one(-10, 10, 1)}, 1, []int{1, 0, 0}, 0}, {[]api.Share{one(-10, 10, 1), one(-10, 10, 1), one(-10, 10, 1)}, -1, []int{0, 0, -1}, 0},
	} {
		got, missing, e := share.Divide(x.l, x.total)
		if !slices.Equal(got, x.want) || missing != x.missing || e != api.OK || !share.Check(x.l, x.total, got) {
			t.Errorf("%v, %d: %v, %d, error %d", x.l, x.total, got, missing, e)
		}
	}
	for _, total := range []int{api.MaxMoment + 1, -api.MaxMoment - 1, math.MinInt, math.MaxInt} {
		if got, missing, e := share.Divide([]api.Share{one(0, 1, 1)}, total); got != nil || missing != 0 || e != api.ErrRange {
			t.Errorf("total %d: %v, %d, error %d", total, got, missing, e)
		}
	}
}

// all calls f with all numbers in the ranges, lexicographically ascending.
func all(l []api.Share, x []int, f func(x []int)) {
	if len(x) == len(l) {
		f(x)
		return
	}
	for n := l[len(x)].Low; n <= l[len(x)].High; n++ {
		all(l, append(slices.Clone(x), n), f)
	}
}

func TestDivideIsTheBestOfAll(t *testing.T) {
	r := rand.New(rand.NewSource(6))
	for range 400 {
		var l []api.Share
		for range 1 + r.Intn(3) {
			low := r.Intn(9) - 6
			l = append(l, one(low, low+r.Intn(7), 1+r.Intn(4)))
		}
		low, high, _ := share.Reach(l)
		total := low - 2 + r.Intn(high-low+5)
		sum := min(max(total, low), high)
		var best []int
		least := math.MaxInt
		all(l, nil, func(x []int) {
			if cost, _ := share.Sum(l, x); added(x) == sum && cost <= least {
				best, least = x, cost
			}
		})
		got, missing, e := share.Divide(l, total)
		if !slices.Equal(got, best) || missing != total-sum || e != api.OK {
			t.Fatalf("%v, %d: %v, not %v", l, total, got, best)
		}
		all(l, nil, func(x []int) {
			cost, _ := share.Sum(l, x)
			if right := added(x) == sum && cost == least; share.Check(l, total, x) != right {
				t.Fatalf("%v, %d: Check of %v: %v", l, total, x, !right)
			}
		})
		if p, q, ok := share.Price(l, got); ok && p > q {
			t.Fatalf("%v, %d: the price of %v is from %d to %d", l, total, got, p, q)
		}
	}
}

func TestGreaterTotals(t *testing.T) {
	l := []api.Share{one(-20, 30, 3), one(0, 40, 1), one(-10, 10, 7)}
	last := []int{-20, 0, -10}
	for total := -40; total < 90; total++ {
		x, _, _ := share.Divide(l, total)
		for i := range x {
			if x[i] < last[i] {
				t.Errorf("%d: %v behind %v", total, x, last)
			}
		}
		last = x
	}
}

func TestCheckErrors(t *testing.T) {
	l := []api.Share{one(0, 10, 1), one(0, 10, 2)}
	for _, x := range [][]int{nil, {6}, {6, 3, 0}, {-1, 10}, {11, -2}, {6, 4}, {5, 4}, {7, 2}} {
		if share.Check(l, 9, x) {
			t.Errorf("Check of %v", x)
		}
	}
	if !share.Check(l, 500000, []int{10, 10}) || !share.Check(l, -500000, []int{0, 0}) || !share.Check(nil, 5, nil) {
		t.Error("Check of totals out of reach")
	}
}

func TestPrice(t *testing.T) {
	l := []api.Share{one(0, 10, 1), one(-5, 10, 2)}
	for _, x := range []struct {
		x         []int
		low, high int
		ok        bool
	}{{[]int{6, 3}, 11, 13, true}, {[]int{0, -5}, 0, 0, false}, {[]int{10, 10}, 0, 0, false}, {[]int{0, -4}, -18, -14, true}, {[]int{10, 3}, 19, 14, true}, {[]int{6}, 0, 0, false}, {[]int{11, 0}, 0, 0, false}, {nil, 0, 0, false}} {
		if low, high, ok := share.Price(l, x.x); low != x.low || high != x.high || ok != x.ok {
			t.Errorf("Price of %v: %d, %d, %v", x.x, low, high, ok)
		}
	}
	if low, high, ok := share.Price([]api.Share{one(-5000, 5000, 100)}, []int{4999}); low != 999700 || high != 999900 || !ok {
		t.Errorf("Price at the limit: %d, %d, %v", low, high, ok)
	}
}
