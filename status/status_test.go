package status_test

import (
	"fmt"
	"math/rand"
	"testing"

	"dynpos/api"
	"dynpos/status"
)

func same(t *testing.T, name string, got, want any) {
	t.Helper()
	if g, w := fmt.Sprint(got), fmt.Sprint(want); g != w {
		t.Errorf("%s: %s, not %s", name, g, w)
	}
}

func TestJudge(t *testing.T) {
	for state := -1; state < 4; state++ {
		for causes := range 4 {
			for i := range 4 {
				holds, safe := i&1 == 1, i&2 == 2
				want := api.LevelYellow
				if !holds || state != api.EstimateGood {
					want = api.LevelRed
				} else if safe && causes >= 2 {
					want = api.LevelGreen
				}
				same(t, fmt.Sprint(holds, safe, state, causes), status.Judge(holds, safe, api.Estimate{State: state}, causes), want)
			}
		}
	}
}

func TestValid(t *testing.T) {
	for _, x := range []struct {
		level, better, time int
		want                bool
	}{{1, -1, 0, true}, {2, 5, 5, true}, {2, 6, 5, false}, {1, -2, 5, false}, {3, -1, 5, true}, {3, 0, 5, false}, {0, -1, 5, false}, {4, -1, 5, false}, {1, -1, -1, true}, {1, -1, -2, false}} {
		same(t, fmt.Sprint(x), status.Valid(api.Class{Level: x.level, Better: x.better}, x.time), x.want)
	}
}

func TestNext(t *testing.T) {
	for _, x := range []struct {
		level, better, time, judged, delay int
		want                               api.Class
	}{
		{3, -1, 9, 3, 5, api.Class{Level: 3, Better: -1}}, {3, -1, 9, 1, 5, api.Class{Level: 1, Better: -1}}, {2, 4, 9, 2, 5, api.Class{Level: 2, Better: -1}}, {2, 4, 9, 1, 5, api.Class{Level: 1, Better: -1}}, {1, -1, 9, 2, 5, api.Class{Level: 1, Better: 9}}, {1, 5, 9, 3, 5, api.Class{Level: 1, Better: 5}},
		{1, 4, 9, 2, 5, api.Class{Level: 2, Better: -1}}, {1, 4, 9, 3, 5, api.Class{Level: 2, Better: 9}}, {2, 4, 9, 3, 5, api.Class{Level: 3, Better: -1}}, {1, -1, 9, 3, 0, api.Class{Level: 2, Better: 9}}, {2, -1, 9, 3, 0, api.Class{Level: 3, Better: -1}}, {1, 0, api.MaxTime, 2, 600, api.Class{Level: 2, Better: -1}},
	} {
		got, e := status.Next(api.Class{Level: x.level, Better: x.better}, x.time, x.judged, x.delay)
		same(t, fmt.Sprint(x), []any{got, e}, []any{x.want, api.OK})
	}
	for _, x := range []struct {
		level, better, time, judged, delay int
		want                               api.Errno
	}{{0, -1, -1, 1, -1, api.ErrClass}, {2, 6, 5, 1, 0, api.ErrClass}, {2, -1, 5, 0, -1, api.ErrClass}, {2, -1, 5, 4, 0, api.ErrClass}, {2, -1, -1, 2, 0, api.ErrRange}, {2, -1, api.MaxTime + 1, 2, 0, api.ErrRange}, {2, -1, 5, 2, -1, api.ErrRange}, {2, -1, 5, 2, 601, api.ErrRange}} {
		got, e := status.Next(api.Class{Level: x.level, Better: x.better}, x.time, x.judged, x.delay)
		same(t, fmt.Sprint(x), []any{got, e}, []any{api.Class{}, x.want})
	}
}

func TestRun(t *testing.T) {
	for _, x := range []struct {
		judged []int
		delay  int
		want   []int
		e      api.Errno
	}{{[]int{3, 3, 3, 3, 3}, 2, []int{1, 1, 2, 2, 3}, api.OK}, {[]int{3, 3, 3}, 0, []int{2, 3, 3}, api.OK}, {[]int{3, 3, 1, 2, 2, 3}, 1, []int{1, 2, 1, 1, 2, 2}, api.OK}, {nil, -1, nil, api.OK}, {[]int{3, 0}, 0, nil, api.ErrClass}, {[]int{3}, -1, nil, api.ErrRange}, {make([]int, 401), 0, nil, api.ErrLimit}} {
		got, e := status.Run(x.judged, x.delay)
		same(t, fmt.Sprint(x), []any{got, e}, []any{append([]int{}, x.want...), x.e})
	}
	long := make([]int, 400)
	for i := range long {
		long[i] = 2
	}
	_, e := status.Run(long, 5)
	same(t, "400 ticks", e, api.OK)
}

func TestLevelsAreNeverBetterThanJudged(t *testing.T) {
	r := rand.New(rand.NewSource(17))
	for range 300 {
		judged := make([]int, 60)
		for i := range judged {
			judged[i] = 1 + r.Intn(3)
			if r.Intn(4) > 0 {
				judged[i] = 3
			}
		}
		delay := r.Intn(5)
		levels, _ := status.Run(judged, delay)
		for i, level := range levels {
			for _, n := range judged[max(0, i-delay) : i+1] {
				if level > n && level > 1 {
					t.Fatalf("%v, delay %d: %v", judged, delay, levels)
				}
			}
			if i > 0 && level > levels[i-1]+1 {
				t.Fatalf("%v, delay %d: %v", judged, delay, levels)
			}
		}
	}
}

func TestEnough(t *testing.T) {
	same(t, "Enough", []bool{status.Enough(api.Class{Level: 2}, 1), status.Enough(api.Class{Level: 2}, 2), status.Enough(api.Class{Level: 2}, 3)}, []bool{true, true, false})
}
