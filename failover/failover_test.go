package failover_test

import (
	"fmt"
	"math"
	"math/rand"
	"slices"
	"testing"

	"dynpos/api"
	"dynpos/failover"
)

func same(t *testing.T, name string, got, want any) {
	t.Helper()
	if g, w := fmt.Sprint(got), fmt.Sprint(want); g != w {
		t.Errorf("%s: %s, not %s", name, g, w)
	}
}

const standby, active, crashed = api.ControllerStandby, api.ControllerActive, api.ControllerCrashed

func one(state, epoch, heard int) api.Controller {
	return api.Controller{State: state, Epoch: epoch, Heard: heard}
}

// matrix says who reaches whom, one way only.
func matrix(n int, pairs ...[2]int) [][]bool {
	reach := make([][]bool, n)
	for i := range reach {
		reach[i] = make([]bool, n)
	}
	for _, p := range pairs {
		reach[p[0]][p[1]] = true
	}
	return reach
}

// all says that all reach each other.
func all(n int) [][]bool {
	reach := matrix(n)
	for _, row := range reach {
		for k := range row {
			row[k] = true
		}
	}
	return reach
}

func TestCheckAndNew(t *testing.T) {
	for i, x := range []struct {
		l    []api.Controller
		time int
		want api.Errno
	}{{make([]api.Controller, 1), 0, api.OK}, {[]api.Controller{one(2, api.MaxTime, 5), one(1, 0, 0)}, 5, api.OK}, {nil, 0, api.ErrLimit}, {make([]api.Controller, 6), -1, api.ErrLimit}, {make([]api.Controller, 1), -1, api.ErrRange}, {[]api.Controller{one(3, 0, 0)}, 5, api.ErrRange}, {[]api.Controller{one(-1, 0, 0)}, 5, api.ErrRange}, {[]api.Controller{one(0, -1, 0)}, 5, api.ErrRange}, {[]api.Controller{one(0, api.MaxTime+1, 0)}, 5, api.ErrRange}, {[]api.Controller{one(0, 0, 6)}, 5, api.ErrRange}, {[]api.Controller{one(0, 0, -1)}, 5, api.ErrRange}} {
		same(t, fmt.Sprint(i), failover.Check(x.l, x.time), x.want)
		if x.want != api.OK {
			l, e := failover.Tick(x.l, nil, x.time, -1)
			same(t, fmt.Sprint(i), []any{l, e, failover.Candidates(x.l, all(len(x.l)), x.time, 0)}, []any{[]int{}, x.want, []int{}})
		}
	}
	for n, want := range map[int]api.Errno{0: api.ErrLimit, -1: api.ErrLimit, 6: api.ErrLimit, 1: api.OK, 5: api.OK} {
		l, e := failover.New(n)
		same(t, fmt.Sprint(n), e, want)
		if e == api.OK {
			same(t, fmt.Sprint(n), l, make([]api.Controller, n))
		} else {
			same(t, fmt.Sprint(n), l, []int{})
		}
	}
}

func TestHeard(t *testing.T) {
	l := []api.Controller{one(0, 0, 0), one(1, 0, 0), one(2, 0, 0), one(0, 0, 0)}
	reach := matrix(4, [2]int{1, 0}, [2]int{0, 2}, [2]int{1, 3})
	for i, want := range [][]int{{0, 1}, {0, 1, 3}, nil, {1, 3}} {
		same(t, fmt.Sprint(i), failover.Heard(l, reach, i), append([]int{}, want...))
	}
	for _, x := range []struct {
		reach [][]bool
		i     int
	}{{reach, -1}, {reach, 4}, {reach[1:], 0}, {nil, 0}, {[][]bool{nil, nil, nil, nil}, 0}} {
		same(t, "Heard", failover.Heard(l, x.reach, x.i), []int{})
	}
}

func TestExample(t *testing.T) {
	l, _ := failover.New(3)
	for time := range 6 {
		if time == 4 {
			l, _ = failover.Crash(l, 0)
		}
		var e api.Errno
		l, e = failover.Tick(l, all(3), time, 2)
		want := [][]api.Controller{
			{one(0, 0, 0), one(0, 0, 0), one(0, 0, 0)}, {one(0, 0, 0), one(0, 0, 0), one(0, 0, 0)}, {one(1, 1, 2), one(0, 1, 0), one(0, 1, 0)},
			{one(1, 1, 3), one(0, 1, 3), one(0, 1, 3)}, {one(2, 1, 3), one(0, 1, 3), one(0, 1, 3)}, {one(2, 1, 3), one(1, 2, 5), one(0, 2, 3)},
		}[time]
		same(t, fmt.Sprint(time), []any{l, e}, []any{want, api.OK})
	}
}

func TestTick(t *testing.T) {
	for _, x := range []struct {
		name  string
		l     []api.Controller
		reach [][]bool
		want  []api.Controller
	}{
		{"epochs are learned from those that are heard", []api.Controller{one(0, 3, 9), one(0, 5, 9), one(0, 1, 9), one(2, 99, 0)}, matrix(4, [2]int{0, 1}, [2]int{1, 2}, [2]int{2, 3}), []api.Controller{one(0, 5, 9), one(0, 5, 9), one(0, 5, 9), one(2, 99, 0)}},
		{"no majority", []api.Controller{one(1, 3, 9), one(0, 3, 9), one(2, 3, 9)}, matrix(3), []api.Controller{one(0, 3, 9), one(0, 3, 9), one(2, 3, 9)}},
		{"half is no majority", []api.Controller{one(1, 3, 9), one(0, 3, 9), one(2, 3, 9), one(0, 3, 9)}, matrix(4, [2]int{0, 1}), []api.Controller{one(0, 3, 9), one(0, 3, 9), one(2, 3, 9), one(0, 3, 9)}},
		{"an old epoch", []api.Controller{one(1, 3, 9), one(0, 4, 9), one(0, 4, 9)}, all(3), []api.Controller{one(0, 4, 9), one(0, 4, 9), one(0, 4, 9)}},
		{"two with one epoch", []api.Controller{one(1, 3, 9), one(1, 3, 9), one(0, 3, 8)}, all(3), []api.Controller{one(1, 3, 10), one(0, 3, 10), one(0, 3, 10)}},
		{"two that do not hear each other", []api.Controller{one(1, 3, 9), one(1, 3, 9), one(0, 3, 8)}, matrix(3, [2]int{0, 2}, [2]int{1, 2}), []api.Controller{one(1, 3, 10), one(1, 3, 10), one(0, 3, 10)}},
		{"too early", []api.Controller{one(0, 3, 8), one(0, 3, 8), one(0, 3, 8)}, all(3), []api.Controller{one(0, 3, 8), one(0, 3, 8), one(0, 3, 8)}},
		{"the second one", []api.Controller{one(0, 3, 8), one(0, 3, 7), one(0, 5, 7)}, all(3), []api.Controller{one(0, 6, 8), one(1, 6, 10), one(0, 6, 7)}},
		{"the last epoch", []api.Controller{one(0, api.MaxTime-1, 0)}, all(1), []api.Controller{one(1, api.MaxTime, 10)}},
		{"alone", []api.Controller{one(0, 0, 0)}, all(1), []api.Controller{one(1, 1, 10)}},
		{"a line: the least one that is heard", []api.Controller{one(0, 0, 0), one(0, 0, 0), one(0, 0, 0)}, matrix(3, [2]int{0, 1}, [2]int{1, 2}), []api.Controller{one(1, 1, 10), one(0, 1, 0), one(0, 0, 0)}},
		{"a candidate whose voters vote for another one", []api.Controller{one(0, 0, 9), one(0, 7, 0), one(0, 0, 0), one(0, 0, 9), one(0, 0, 9)}, matrix(5, [2]int{1, 0}, [2]int{1, 2}, [2]int{2, 3}, [2]int{2, 4}), []api.Controller{one(0, 8, 9), one(1, 8, 10), one(0, 8, 0), one(0, 0, 9), one(0, 0, 9)}},
		{"an active one without a majority makes room", []api.Controller{one(1, 2, 9), one(0, 0, 9), one(0, 0, 0), one(0, 0, 9), one(2, 0, 9)}, matrix(5, [2]int{0, 1}, [2]int{1, 2}, [2]int{2, 3}), []api.Controller{one(0, 2, 9), one(0, 3, 9), one(1, 3, 10), one(0, 3, 9), one(2, 0, 9)}},
	} {
		before := slices.Clone(x.l)
		got, e := failover.Tick(x.l, x.reach, 10, 3)
		same(t, x.name, []any{got, e, x.l}, []any{x.want, api.OK, before})
	}
}

func TestTickErrors(t *testing.T) {
	two := []api.Controller{one(0, 0, 0), one(0, api.MaxTime, 0)}
	for i, x := range []struct {
		reach         [][]bool
		time, timeout int
		want          api.Errno
	}{{nil, api.MaxTime + 1, -1, api.ErrShape}, {[][]bool{{true, true}, {true}}, 0, 0, api.ErrShape}, {all(3), 0, 0, api.ErrShape}, {all(2), api.MaxTime + 1, 0, api.ErrRange}, {all(2), 5, -1, api.ErrRange}, {all(2), 5, 601, api.ErrRange}, {all(2), 5, 0, api.ErrLimit}, {all(2), 5, 6, api.OK}} {
		l, e := failover.Tick(two, x.reach, x.time, x.timeout)
		same(t, fmt.Sprint(i), e, x.want)
		if e != api.OK {
			want := []int{}
			if e == api.ErrLimit {
				want = []int{0, 1}
			}
			same(t, fmt.Sprint(i), []any{l, failover.Candidates(two, x.reach, x.time, x.timeout)}, []any{[]int{}, want})
		}
	}
}

func TestCandidates(t *testing.T) {
	l := []api.Controller{one(2, 0, 0), one(0, 1, 8), one(0, 9, 7), one(0, 0, 5), one(0, 0, 5)}
	same(t, "Candidates", failover.Candidates(l, all(5), 10, 3), []int{2, 3, 4})
	same(t, "no majority", failover.Candidates(l, matrix(5, [2]int{2, 3}, [2]int{3, 4}), 10, 3), []int{3})
	l[1].State = active
	same(t, "an active one", failover.Candidates(l, all(5), 10, 3), []int{})
	same(t, "an active one that only some hear", failover.Candidates(l, matrix(5, [2]int{2, 3}, [2]int{3, 4}, [2]int{1, 4}), 10, 3), []int{3})
}

func TestCrashAndRestart(t *testing.T) {
	l := []api.Controller{one(active, 3, 7), one(crashed, 4, 8)}
	next, e := failover.Crash(l, 0)
	same(t, "Crash", []any{next, e}, []any{[]api.Controller{one(crashed, 3, 7), one(crashed, 4, 8)}, api.OK})
	next, e = failover.Restart(l, 1, 9)
	same(t, "Restart", []any{next, e, l[1]}, []any{[]api.Controller{one(active, 3, 7), one(standby, 4, 9)}, api.OK, one(crashed, 4, 8)})
	for _, i := range []int{-1, 2} {
		next, e := failover.Crash(l, i)
		again, f := failover.Restart(l, i, -1)
		same(t, fmt.Sprint(i), []any{next, e, again, f}, []any{[]int{}, api.ErrUnknown, []int{}, api.ErrUnknown})
	}
	next, e = failover.Crash(l, 1)
	again, f := failover.Restart(l, 0, -1)
	same(t, "states", []any{next, e, again, f}, []any{[]int{}, api.ErrState, []int{}, api.ErrState})
	for time, want := range map[int]api.Errno{7: api.ErrRange, api.MaxTime + 1: api.ErrRange, 8: api.OK, api.MaxTime: api.OK} {
		_, e := failover.Restart(l, 1, time)
		same(t, fmt.Sprint(time), e, want)
	}
}

func TestFence(t *testing.T) {
	for _, x := range []struct {
		epoch, command, want int
		e                    api.Errno
	}{{3, 5, 5, api.OK}, {3, 3, 3, api.OK}, {3, 2, 0, api.ErrEpoch}, {0, api.MaxTime, api.MaxTime, api.OK}, {0, 0, 0, api.OK}, {api.MaxTime + 1, api.MaxTime + 1, 0, api.ErrRange}, {-1, -1, 0, api.ErrRange}, {-1, 5, 0, api.ErrRange}, {3, -1, 0, api.ErrRange}, {api.MaxTime + 1, 5, 0, api.ErrRange}, {3, math.MaxInt, 0, api.ErrRange}} {
		got, e := failover.Fence(x.epoch, x.command)
		same(t, fmt.Sprint(x), []any{got, e}, []any{x.want, x.e})
	}
}

func TestNeverTwoWithOneEpoch(t *testing.T) {
	r := rand.New(rand.NewSource(21))
	for range 300 {
		n, timeout := 1+r.Intn(5), r.Intn(4)
		l, _ := failover.New(n)
		used, last := map[int]int{}, 0
		reach, calm := all(n), 0
		for time := range 60 {
			if r.Intn(10) == 0 {
				reach, calm = matrix(n), 0
				for i := range n {
					for k := range n {
						reach[i][k] = r.Intn(2) == 0
					}
				}
			} else if r.Intn(8) == 0 {
				reach, calm = all(n), 0
			}
			switch i := r.Intn(n); {
			case r.Intn(12) == 0 && l[i].State == crashed:
				l, _ = failover.Restart(l, i, time)
				calm = 0
			case r.Intn(12) == 0 && l[i].State != crashed:
				l, _ = failover.Crash(l, i)
				calm = 0
			}
			before := l
			var e api.Errno
			l, e = failover.Tick(l, reach, time, timeout)
			if e != api.OK {
				t.Fatalf("error %d", e)
			}
			look(t, l, before, reach, used, &last)
			calm++
			up := 0
			for _, c := range l {
				if c.State != crashed {
					up++
				}
			}
			if is := slices.ContainsFunc(l, func(c api.Controller) bool { return c.State == active }); fmt.Sprint(reach) == fmt.Sprint(all(n)) && 2*up > n && calm > timeout+1 && !is {
				t.Fatalf("nobody is active: %v", l)
			}
		}
	}
}

// look checks who became active, and who is.
func look(t *testing.T, l, before []api.Controller, reach [][]bool, used map[int]int, last *int) {
	t.Helper()
	majorities := 0
	for i, c := range l {
		if c.State != active {
			continue
		}
		if before[i].State != active {
			if c.Epoch <= *last {
				t.Fatalf("the epoch %d behind %d", c.Epoch, *last)
			}
			*last = c.Epoch
		}
		if who, ok := used[c.Epoch]; ok && who != i {
			t.Fatalf("%d and %d are active with the epoch %d", who, i, c.Epoch)
		}
		used[c.Epoch] = i
		if 2*len(failover.Heard(l, reach, i)) > len(l) {
			majorities++
		}
	}
	if majorities > 1 {
		t.Fatalf("two active ones hear a majority: %v", l)
	}
}
