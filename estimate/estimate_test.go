package estimate_test

import (
	"fmt"
	"math"
	"math/rand"
	"testing"

	"dynpos/api"
	"dynpos/estimate"
)

func same(t *testing.T, name string, got, want any) {
	t.Helper()
	if g, w := fmt.Sprint(got), fmt.Sprint(want); g != w {
		t.Errorf("%s: %s, not %s", name, g, w)
	}
}

// ship returns references with different causes.
func ship(n int) []api.Reference {
	var l []api.Reference
	for i := range n {
		l = append(l, api.Reference{Cause: i, Speed: 100, Stale: 5})
	}
	return l
}

func signal(source, time, x, y, err int) api.Signal {
	return api.Signal{Kind: api.SignalFix, Source: source, Time: time, A: x, B: y, C: err}
}

// seen returns a good track with one fix.
func seen(time, x, y, err int) api.Track {
	f := api.Fix{Time: time, X: x, Y: y, Error: err}
	return api.Track{Last: f, Good: f, Seen: true, Same: 1, State: api.RefGood}
}

func TestConfigAndNew(t *testing.T) {
	bad := ship(3)
	bad[2].Stale = 0
	for _, x := range []struct {
		l    []api.Reference
		want api.Errno
	}{{nil, api.OK}, {ship(8), api.OK}, {make([]api.Reference, 9), api.ErrLimit}, {bad, api.ErrRange}} {
		same(t, "Config", estimate.Config(x.l), x.want)
		tracks, e, err := estimate.New(x.l)
		same(t, "New", err, x.want)
		same(t, "the estimate of New", e, api.Estimate{})
		if err == api.OK {
			same(t, "the tracks of New", tracks, make([]api.Track, len(x.l)))
		} else {
			same(t, "the tracks of New", tracks, noTracks)
			_, _, _, err = estimate.Step(x.l, -1, nil, e, 0, nil)
			same(t, "Step", err, x.want)
			v, i, f := estimate.Votes(x.l, make([]api.Track, 9), 0, 0)
			same(t, "Votes", []any{v, i, f}, []any{api.Vote{}, noTracks, noTracks})
		}
	}
}

var noTracks []api.Track

func TestVotes(t *testing.T) {
	l := ship(6)
	jumped := seen(10, 0, 0, 5)
	jumped.State = api.RefJumped
	invalid := seen(10, 0, 0, 0)
	tracks := []api.Track{jumped, seen(10, 100, 0, 5), seen(21, 0, 0, 5), seen(18, 110, 0, 7), invalid, seen(19, 0, 0, 99999), seen(20, 0, 0, 5)}
	v, usable, fixes := estimate.Votes(l, tracks, 20, 3)
	same(t, "vote", v, api.Vote{Members: []int{1, 3}, Causes: []int{1, 3}})
	same(t, "usable", usable, []int{1, 3})
	same(t, "fixes", fixes, []api.Fix{{Time: 10, X: 100, Error: 35}, {Time: 18, X: 110, Error: 13}})
	v, usable, _ = estimate.Votes(l, tracks[:2], 20, 3)
	same(t, "with few tracks", []any{v, usable}, []any{api.Vote{Members: []int{1}, Causes: []int{1}}, []int{1}})
	_, usable, fixes = estimate.Votes(l, tracks, 20, 1)
	same(t, "the greatest error", []any{usable, fixes[2]}, []any{[]int{1, 3, 5}, api.Fix{Time: 19, Error: 100000}})
	_, usable, _ = estimate.Votes(l, []api.Track{seen(0, 0, 0, 100000)}, 0, 0)
	same(t, "the time 0", usable, []int{0})
	_, usable, _ = estimate.Votes(l, []api.Track{seen(19, 0, 0, 100000)}, 20, 1)
	same(t, "a grown error that is too great", usable, []int{})
	bad := ship(1)
	bad[0].Stale = 0
	v, usable, fixes = estimate.Votes(bad, tracks[1:], 20, 3)
	same(t, "a wrong reference", []any{v, usable, fixes}, []any{api.Vote{}, noTracks, noTracks})
	for _, x := range [][2]int{{20, -1}, {20, 1001}, {-1, 3}, {api.MaxTime + 1, 3}, {api.MaxTime + 1, 0}} {
		v, usable, fixes := estimate.Votes(l, append(tracks[:2:2], seen(api.MaxTime, 0, 0, 5)), x[0], x[1])
		same(t, "out of range", []any{v, usable, fixes}, []any{api.Vote{}, noTracks, noTracks})
	}
}

func TestStepGood(t *testing.T) {
	l := ship(3)
	tracks, e, _ := estimate.New(l)
	fixes := []api.Signal{signal(0, 7, 0, 0, 10), signal(1, 7, 10, 0, 10), signal(2, 7, 1000, 0, 10), signal(0, 7, 500, 0, 10),
		signal(3, 7, 0, 0, 10), signal(-1, 7, 0, 0, 10), signal(2, 8, 0, 0, 10), signal(2, 6, 0, 0, 10), signal(1, 7, 0, 0, 0), {Kind: api.SignalWind, Time: 7}}
	next, got, v, err := estimate.Step(l, 5, tracks, e, 7, fixes)
	same(t, "error", err, api.OK)
	same(t, "vote", v, api.Vote{Members: []int{0, 1}, Causes: []int{0, 1}})
	same(t, "estimate", got, api.Estimate{Point: api.Point{X: 5}, Bound: 15, Time: 7, State: api.EstimateGood})
	same(t, "tracks", next, []api.Track{seen(7, 0, 0, 10), seen(7, 10, 0, 10), seen(7, 1000, 0, 10)})
	same(t, "the old tracks", tracks, make([]api.Track, 3))
}

func TestStepLost(t *testing.T) {
	l := ship(1)
	tracks, e := []api.Track{seen(10, 50, 60, 30)}, api.Estimate{Point: api.Point{X: 50, Y: 60}, Bound: 30, Time: 10, State: api.EstimateGood}
	old := tracks
	next, got, v, err := estimate.Step(l, 10, tracks, e, 14, nil)
	same(t, "not yet stale", []any{next, got, v, err}, []any{old, api.Estimate{Point: e.Point, Bound: 70, Time: 14, State: api.EstimateGood}, api.Vote{Members: []int{0}, Causes: []int{0}}, api.OK})
	next, got, v, err = estimate.Step(l, 10, tracks, e, 20, nil)
	old[0].State = api.RefStale
	same(t, "stale", []any{next, got, v, err}, []any{old, api.Estimate{Point: e.Point, Bound: 130, Time: 20, State: api.EstimateLost}, api.Vote{}, api.OK})
	_, got, _, _ = estimate.Step(l, 1000, next, got, api.MaxTime, nil)
	same(t, "lost for long", got, api.Estimate{Point: e.Point, Bound: 200000000, Time: api.MaxTime, State: api.EstimateLost})
	_, got, v, err = estimate.Step(nil, 10, nil, api.Estimate{Bound: 5, Time: 3}, 9, nil)
	same(t, "nothing is known", []any{got, v, err}, []any{api.Estimate{Time: 9}, api.Vote{}, api.OK})
}

func TestStepTie(t *testing.T) {
	l := ship(2)
	e := api.Estimate{Point: api.Point{X: 7}, Bound: 8, Time: 3, State: api.EstimateLost}
	_, got, v, _ := estimate.Step(l, 1, make([]api.Track, 2), e, 5, []api.Signal{signal(0, 5, 0, 0, 1), signal(1, 5, 100, 0, 1)})
	same(t, "tie", []any{got, v}, []any{api.Estimate{Point: e.Point, Bound: 10, Time: 5, State: api.EstimateLost}, api.Vote{Tie: true}})
}

func TestTracksWithErrorsStay(t *testing.T) {
	bad := seen(5, 0, 0, 1)
	bad.Same = 0
	next, got, _, err := estimate.Step(ship(1), 1, []api.Track{bad}, api.Estimate{}, 500, []api.Signal{signal(0, 500, 0, 0, 1)})
	same(t, "tracks", next, []api.Track{bad})
	same(t, "the rest", []any{got.State, err}, []any{api.EstimateGood, api.OK})
}

func TestStepErrors(t *testing.T) {
	good := api.Estimate{Time: 5}
	for _, x := range []struct {
		speed  int
		tracks []api.Track
		e      api.Estimate
		time   int
		want   api.Errno
	}{
		{0, make([]api.Track, 1), api.Estimate{Bound: 200000000}, 0, api.OK}, {1000, make([]api.Track, 1), good, api.MaxTime, api.OK}, {1, []api.Track{seen(5, 0, 0, 1)}, good, 5, api.OK}, {1, nil, good, 5, api.ErrShape}, {-1, make([]api.Track, 2), good, 5, api.ErrShape}, {-1, make([]api.Track, 1), good, 5, api.ErrRange}, {1001, make([]api.Track, 1), good, 5, api.ErrRange}, {1, make([]api.Track, 1), good, -1, api.ErrRange}, {1, make([]api.Track, 1), good, api.MaxTime + 1, api.ErrRange},
		{1, make([]api.Track, 1), api.Estimate{Bound: -1}, 5, api.ErrRange}, {1, make([]api.Track, 1), api.Estimate{Bound: 200000001}, 5, api.ErrRange}, {1, make([]api.Track, 1), api.Estimate{Time: -1}, 5, api.ErrRange}, {1, make([]api.Track, 1), api.Estimate{Time: api.MaxTime + 1}, 5, api.ErrRange}, {1, make([]api.Track, 1), api.Estimate{Point: api.Point{X: math.MaxInt}}, 5, api.ErrRange},
		{1, make([]api.Track, 1), good, 4, api.ErrTime}, {1, []api.Track{seen(6, 0, 0, 1)}, good, 5, api.ErrTime}, {1, []api.Track{{Last: api.Fix{Time: 6}}}, good, 5, api.OK},
	} {
		tracks, e, v, err := estimate.Step(ship(1), x.speed, x.tracks, x.e, x.time, nil)
		same(t, fmt.Sprint(x), err, x.want)
		if x.want != api.OK {
			same(t, fmt.Sprint(x), []any{tracks, e, v}, []any{noTracks, api.Estimate{}, api.Vote{}})
		}
	}
}

func TestHolds(t *testing.T) {
	e := api.Estimate{Point: api.Point{X: 100, Y: 100}, Bound: 10, State: api.EstimateLost}
	for p, want := range map[api.Point]bool{{X: 110, Y: 90}: true, {X: 111, Y: 100}: false, {X: 100, Y: 89}: false, {X: math.MinInt}: false, {X: 100, Y: 100}: true} {
		same(t, fmt.Sprint(p), estimate.Holds(e, p), want)
	}
	e.State = api.EstimateNone
	same(t, "nothing is known", estimate.Holds(e, e.Point), false)
}

func TestTruePlaceIsWithinTheBound(t *testing.T) {
	r := rand.New(rand.NewSource(4))
	const speed = 20
	for range 50 {
		l := ship(4)
		tracks, e, _ := estimate.New(l)
		x, y := 0, 0
		for time := 1; time < 60; time++ {
			x, y = x+r.Intn(2*speed+1)-speed, y+r.Intn(2*speed+1)-speed
			var fixes []api.Signal
			for i := range 3 {
				if err := 5 + r.Intn(30); r.Intn(3) == 0 {
					fixes = append(fixes, signal(i, time, x+r.Intn(2*err+1)-err, y+r.Intn(2*err+1)-err, err))
				}
			}
			fixes = append(fixes, signal(3, time, 100000, 0, 5)) // a reference that is always wrong
			var v api.Vote
			var err api.Errno
			tracks, e, v, err = estimate.Step(l, speed, tracks, e, time, fixes)
			wrong := len(v.Members) > 0 && v.Members[0] == 3
			if wrong {
				break
			}
			if err != api.OK || e.State != api.EstimateNone && !estimate.Holds(e, api.Point{X: x, Y: y}) {
				t.Fatalf("at %d: (%d, %d) is not within %v, error %d", time, x, y, e, err)
			}
		}
	}
}
