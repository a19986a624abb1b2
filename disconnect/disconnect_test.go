package disconnect_test

import (
	"fmt"
	"math"
	"math/rand"
	"slices"
	"testing"

	"dynpos/api"
	"dynpos/disconnect"
)

func same(t *testing.T, name string, got, want any) {
	t.Helper()
	if g, w := fmt.Sprint(got), fmt.Sprint(want); g != w {
		t.Errorf("%s: %s, not %s", name, g, w)
	}
}

func stage(name string, ticks, tries int, needs ...int) api.Stage {
	return api.Stage{Name: name, Ticks: ticks, Tries: tries, Needs: needs}
}

// three is the sequence of the example.
func three() api.Sequence {
	return api.Sequence{Stages: []api.Stage{stage("close", 2, 2), stage("lift", 3, 1), stage("leave", 4, 3, 0, 1)}}
}

func work(state, since, tries int) api.Work {
	return api.Work{State: state, Since: since, Tries: tries}
}

func progress(time int, works ...api.Work) api.Progress {
	return api.Progress{Time: time, Works: works}
}

const waiting, running, done, failed = api.StageWaiting, api.StageRunning, api.StageDone, api.StageFailed

func TestCheck(t *testing.T) {
	same(t, "valid", disconnect.Check(three()), api.OK)
	var long api.Sequence
	for i := range api.MaxStages + 1 {
		long.Stages = append(long.Stages, stage(fmt.Sprintf("s%d", i), 600, 3))
	}
	same(t, "12 stages", disconnect.Check(api.Sequence{Stages: long.Stages[:12]}), api.OK)
	for i, s := range []api.Sequence{{}, long, {Stages: []api.Stage{stage("", 1, 1)}}, {Stages: []api.Stage{stage("A", 1, 1)}}, {Stages: []api.Stage{stage("a", 1, 1), stage("a", 1, 1)}}, {Stages: []api.Stage{stage("a", 0, 1)}}, {Stages: []api.Stage{stage("a", 601, 1)}}, {Stages: []api.Stage{stage("a", 1, 0)}}, {Stages: []api.Stage{stage("a", 1, 4)}},
		{Stages: []api.Stage{stage("a", 1, 1, 0)}}, {Stages: []api.Stage{stage("a", 1, 1), stage("b", 1, 1, -1)}}, {Stages: []api.Stage{stage("a", 1, 1), stage("b", 1, 1), stage("c", 1, 1, 1, 0)}}, {Stages: []api.Stage{stage("a", 1, 1), stage("b", 1, 1, 0, 0)}}} {
		name := fmt.Sprint(i)
		same(t, name, disconnect.Check(s), api.ErrSequence)
		p, e := disconnect.New(s, -1)
		same(t, name, []any{p, e}, []any{api.Progress{}, api.ErrSequence})
		works := make([]api.Work, len(s.Stages))
		p, e = disconnect.Step(s, progress(0, works...), []int{99})
		same(t, name, []any{p, e}, []any{api.Progress{}, api.ErrSequence})
		n, ok := disconnect.Left(s, progress(0, works...))
		same(t, name, []any{n, ok, disconnect.Valid(s, progress(0, works...)), disconnect.Length(s), disconnect.Longest(s), disconnect.Path(s), disconnect.Proves(s, nil), disconnect.Proves(s, []int{0})}, []any{0, false, false, 0, 0, []int{}, false, false})
	}
}

func TestNew(t *testing.T) {
	p, e := disconnect.New(three(), 7)
	same(t, "New", []any{p, e}, []any{progress(7, work(running, 7, 1), work(running, 7, 1), work(waiting, 0, 0)), api.OK})
	for _, time := range []int{-1, api.MaxTime + 1} {
		p, e := disconnect.New(three(), time)
		same(t, "New", []any{p, e}, []any{api.Progress{}, api.ErrRange})
	}
	p, _ = disconnect.New(three(), api.MaxTime)
	p, e = disconnect.Step(three(), p, nil)
	same(t, "the end of time", []any{p, e}, []any{api.Progress{}, api.ErrTime})
}

func TestValid(t *testing.T) {
	r, w, d := work(running, 9, 1), work(waiting, 0, 0), work(done, 5, 1)
	for i, x := range []struct {
		p    api.Progress
		want bool
	}{
		{progress(10, r, r, w), true}, {progress(10, work(running, 10, 2), work(running, 8, 1), w), true}, {progress(10, d, d, work(running, 7, 3)), true}, {progress(10, d, r, w), true}, {progress(10, work(failed, 10, 2), work(failed, 0, 1), w), true}, {progress(10, work(done, 8, 2), work(done, 7, 1), work(done, 6, 3)), true}, {progress(1, work(running, 0, 1), work(running, 0, 1), w), true}, {progress(10, d, d, work(failed, 10, 3)), true},
		{progress(10, r, r), false}, {progress(-1, r, r, w), false}, {progress(api.MaxTime+1, r, r, w), false}, {progress(api.MaxTime+1, d, d, d), false}, {progress(api.MaxTime, d, d, d), true}, {progress(10, work(running, 8, 1), r, w), false}, {progress(10, work(running, 11, 1), r, w), false}, {progress(10, work(running, 9, 0), r, w), false}, {progress(10, work(running, 9, 3), r, w), false}, {progress(1, work(running, -1, 1), r, w), false},
		{progress(10, work(done, 9, 1), r, w), false}, {progress(10, work(done, -1, 1), r, w), false}, {progress(10, work(done, 5, 0), r, w), false}, {progress(10, work(failed, 5, 1), r, w), false}, {progress(10, work(failed, 11, 2), r, w), false}, {progress(10, work(failed, -1, 2), r, w), false}, {progress(10, work(4, 5, 1), r, w), false}, {progress(10, work(-1, 5, 1), r, w), false},
		{progress(10, w, r, w), false}, {progress(10, r, r, work(waiting, 1, 0)), false}, {progress(10, r, r, work(waiting, 0, 1)), false}, {progress(10, d, d, w), false}, {progress(10, r, d, r), false}, {progress(10, work(failed, 5, 2), d, work(done, 2, 1)), false},
	} {
		same(t, fmt.Sprint(i), disconnect.Valid(three(), x.p), x.want)
		if !x.want {
			p, e := disconnect.Step(three(), x.p, []int{9})
			n, ok := disconnect.Left(three(), x.p)
			same(t, fmt.Sprint(i), []any{p, e, n, ok}, []any{api.Progress{}, api.ErrSequence, 0, false})
		}
	}
}

func TestStep(t *testing.T) {
	r, w, d := work(running, 9, 1), work(waiting, 0, 0), work(done, 5, 1)
	for i, x := range []struct {
		before api.Progress
		fails  []int
		after  api.Progress
	}{
		{progress(10, r, r, w), nil, progress(11, work(done, 9, 1), r, w)}, {progress(10, d, work(running, 8, 1), w), nil, progress(11, d, work(done, 8, 1), work(running, 11, 1))}, {progress(10, r, r, w), []int{0, 0}, progress(11, work(running, 11, 2), r, w)}, {progress(10, work(running, 9, 2), r, w), []int{0}, progress(11, work(failed, 9, 2), r, w)},
		{progress(10, r, work(running, 8, 1), w), []int{1, 2}, progress(11, work(done, 9, 1), work(failed, 8, 1), w)}, {progress(10, d, d, work(running, 7, 1)), []int{0, 1}, progress(11, d, d, work(done, 7, 1))}, {progress(10, d, d, work(done, 6, 1)), []int{2}, progress(11, d, d, work(done, 6, 1))},
	} {
		got, e := disconnect.Step(three(), x.before, x.fails)
		same(t, fmt.Sprint(i), []any{got, e}, []any{x.after, api.OK})
	}
	for _, n := range []int{-1, 3, math.MaxInt} {
		p, e := disconnect.Step(three(), progress(10, r, r, w), []int{0, n})
		same(t, fmt.Sprint(n), []any{p, e}, []any{api.Progress{}, api.ErrRange})
	}
	before := progress(10, r, r, w)
	disconnect.Step(three(), before, nil)
	same(t, "the argument", before, progress(10, r, r, w))
}

func TestDoneAndStuck(t *testing.T) {
	for _, x := range []struct {
		p           api.Progress
		done, stuck bool
	}{{api.Progress{}, false, false}, {progress(0, work(done, 0, 0)), true, false}, {progress(0, work(done, 0, 0), work(running, 0, 0)), false, false}, {progress(0, work(done, 0, 0), work(failed, 0, 0)), false, true}} {
		same(t, fmt.Sprint(x), []bool{disconnect.Done(x.p), disconnect.Stuck(x.p)}, []bool{x.done, x.stuck})
	}
}

func TestExample(t *testing.T) {
	same(t, "the example", []any{disconnect.Length(three()), disconnect.Path(three()), disconnect.Longest(three())}, []any{7, []int{1, 2}, 16})
	for _, x := range []struct {
		path []int
		want bool
	}{{[]int{1, 2}, true}, {[]int{0, 2}, false}, {[]int{2}, false}, {[]int{1}, false}, {nil, false}, {[]int{2, 1}, false}, {[]int{1, 3}, false}, {[]int{-1, 2}, false}, {[]int{1, 1, 2}, false}} {
		same(t, fmt.Sprint(x.path), disconnect.Proves(three(), x.path), x.want)
	}
	apart := api.Sequence{Stages: []api.Stage{stage("a", 2, 1), stage("b", 3, 1), stage("c", 5, 1)}}
	same(t, "stages that do not need each other", []bool{disconnect.Proves(apart, []int{0, 1}), disconnect.Proves(apart, []int{2})}, []bool{false, true})
	long := api.Sequence{Stages: []api.Stage{stage("a", 600, 3), stage("b", 600, 3, 0)}}
	same(t, "long", []int{disconnect.Length(long), disconnect.Longest(long)}, []int{1200, 3600})
	_, ok := disconnect.Left(three(), progress(10, work(failed, 5, 2), work(running, 9, 1), work(waiting, 0, 0)))
	same(t, "stuck", ok, false)
	n, ok := disconnect.Left(three(), progress(10, work(done, 5, 1), work(done, 5, 1), work(done, 5, 1)))
	same(t, "done", []any{n, ok}, []any{0, true})
	n, _ = disconnect.Left(three(), progress(10, work(done, 5, 1), work(running, 9, 1), work(waiting, 0, 0)))
	same(t, "two and four", n, 6)
}

// paths calls f with all paths of a sequence, in lexicographic order.
func paths(s api.Sequence, path []int, f func(path []int)) {
	if len(path) > 0 {
		f(path)
	}
	for i, g := range s.Stages {
		if len(path) == 0 && len(g.Needs) == 0 || len(path) > 0 && slices.Contains(g.Needs, path[len(path)-1]) {
			paths(s, append(slices.Clone(path), i), f)
		}
	}
}

// random returns a sequence.
func random(r *rand.Rand) api.Sequence {
	var s api.Sequence
	for i := range 1 + r.Intn(7) {
		g := stage(fmt.Sprintf("s%d", i), 1+r.Intn(3), 1+r.Intn(3))
		for k := range i {
			if r.Intn(3) == 0 {
				g.Needs = append(g.Needs, k)
			}
		}
		s.Stages = append(s.Stages, g)
	}
	return s
}

func TestPathsAndRuns(t *testing.T) {
	r := rand.New(rand.NewSource(19))
	for range 400 {
		s := random(r)
		var best []int
		paths(s, nil, func(path []int) {
			sum := 0
			for _, i := range path {
				sum += s.Stages[i].Ticks
			}
			if sum > disconnect.Length(s) || disconnect.Proves(s, path) != (sum == disconnect.Length(s)) {
				t.Fatalf("%v: %v takes %d", s, path, sum)
			}
			if sum == disconnect.Length(s) && best == nil {
				best = path
			}
		})
		same(t, fmt.Sprint(s), []any{disconnect.Path(s), disconnect.Proves(s, disconnect.Path(s))}, []any{best, true})
		p, _ := disconnect.New(s, 3)
		for left := disconnect.Length(s); left >= 0; left-- {
			n, ok := disconnect.Left(s, p)
			if n != left || !ok || disconnect.Done(p) != (left == 0) {
				t.Fatalf("%v: %v has %d left, not %d", s, p, n, left)
			}
			p, _ = disconnect.Step(s, p, nil)
		}
		slow(t, s)
	}
}

// slow runs a sequence in which each try but the last one of each stage fails in its last tick.
func slow(t *testing.T, s api.Sequence) {
	t.Helper()
	p, _ := disconnect.New(s, 0)
	steps := 0
	for !disconnect.Done(p) {
		var fails []int
		for i, w := range p.Works {
			if g := s.Stages[i]; w.State == running && w.Tries < g.Tries && w.Since+g.Ticks == p.Time+1 {
				fails = append(fails, i)
			}
		}
		next, e := disconnect.Step(s, p, fails)
		if e != api.OK || !disconnect.Valid(s, next) {
			t.Fatalf("%v: %v, error %d", s, p, e)
		}
		p, steps = next, steps+1
	}
	same(t, fmt.Sprint(s), disconnect.Longest(s), steps)
}
