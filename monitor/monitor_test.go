package monitor_test

import (
	"math"
	"testing"

	"dynpos/api"
	"dynpos/monitor"
)

var reference = api.Reference{Cause: 1, Speed: 100, Stale: 5, Freeze: 3}

func fix(time, x, y, err int) api.Fix { return api.Fix{Time: time, X: x, Y: y, Error: err} }

func TestValid(t *testing.T) {
	for _, r := range []api.Reference{reference, {Stale: 1}, {Cause: 7, Speed: 1000, Stale: 600, Freeze: 600}} {
		if !monitor.Valid(r) {
			t.Errorf("%v is not valid", r)
		}
	}
	for _, r := range []api.Reference{{}, {Cause: -1, Stale: 1}, {Cause: 8, Stale: 1}, {Speed: -1, Stale: 1}, {Speed: 1001, Stale: 1}, {Stale: 601}, {Stale: 1, Freeze: -1}, {Stale: 1, Freeze: 601}} {
		if monitor.Valid(r) {
			t.Errorf("%v is valid", r)
		}
		if _, e := monitor.Step(r, api.Track{}, fix(1, 0, 0, 1)); e != api.ErrRange {
			t.Errorf("Step with %v: error %d", r, e)
		}
		if _, e := monitor.Tick(r, api.Track{}, 1); e != api.ErrRange {
			t.Errorf("Tick with %v: error %d", r, e)
		}
	}
}

func TestFix(t *testing.T) {
	for _, f := range []api.Fix{fix(0, 0, 0, 1), fix(api.MaxTime, 100000000, -100000000, 100000)} {
		if !monitor.Fix(f) {
			t.Errorf("%v is not valid", f)
		}
	}
	for _, f := range []api.Fix{fix(-1, 0, 0, 1), fix(api.MaxTime+1, 0, 0, 1), fix(0, 100000001, 0, 1), fix(0, 0, -100000001, 1), fix(0, 0, 0, 0), fix(0, 0, 0, 100001), fix(math.MinInt, math.MinInt, math.MaxInt, math.MaxInt)} {
		if monitor.Fix(f) {
			t.Errorf("%v is valid", f)
		}
		if got, e := monitor.Step(reference, api.Track{}, f); e != api.ErrRange || got != (api.Track{}) {
			t.Errorf("Step with %v: error %d", f, e)
		}
	}
}

func TestFirstFix(t *testing.T) {
	f := fix(10, 3, 4, 50)
	want := api.Track{Last: f, Good: f, Seen: true, Same: 1, State: api.RefGood}
	for _, before := range []api.Track{{}, {Last: fix(99, 0, 0, -1), Same: -5, State: api.RefJumped}} {
		if got, e := monitor.Step(reference, before, f); got != want || e != api.OK {
			t.Errorf("the first fix behind %v: %v, error %d", before, got, e)
		}
	}
}

func TestJumps(t *testing.T) {
	first := fix(10, 0, 0, 50)
	start, _ := monitor.Step(reference, api.Track{}, first)
	for _, x := range []struct {
		f     api.Fix
		state int
	}{{fix(12, 300, 0, 50), api.RefGood}, {fix(12, 301, 0, 50), api.RefJumped}, {fix(12, 0, -301, 50), api.RefJumped}, {fix(12, 300, -300, 50), api.RefGood}, {fix(12, 301, 0, 51), api.RefGood}, {fix(13, 400, 0, 50), api.RefGood}} {
		got, e := monitor.Step(reference, start, x.f)
		want := api.Track{Last: x.f, Good: first, Seen: true, Same: 1, State: x.state}
		if x.state == api.RefGood {
			want.Good = x.f
		}
		if got != want || e != api.OK {
			t.Errorf("%v: %v, error %d, not %v", x.f, got, e, want)
		}
	}
	jumped, _ := monitor.Step(reference, start, fix(12, 1000, 0, 50))
	if got, _ := monitor.Step(reference, jumped, fix(19, 1000, 0, 50)); got.State != api.RefGood || got.Same != 2 {
		t.Errorf("a jumped reference is not good again: %v", got)
	}
}

func TestAllowanceOfALaterGoodFix(t *testing.T) {
	track := api.Track{Last: fix(10, 0, 0, 1), Good: fix(20, 0, 0, 1), Seen: true, Same: 1, State: api.RefJumped}
	if got, e := monitor.Step(reference, track, fix(11, 0, 0, 1)); got.State != api.RefJumped || e != api.OK {
		t.Errorf("a negative allowance: %v, error %d", got, e)
	}
}

func TestFrozen(t *testing.T) {
	track, e := monitor.Run(reference, []api.Fix{fix(1, 5, 5, 9), fix(2, 5, 5, 8)})
	if track.State != api.RefGood || track.Same != 2 || e != api.OK {
		t.Errorf("two equal fixes: %v", track)
	}
	frozen, _ := monitor.Step(reference, track, fix(3, 5, 5, 9))
	if frozen.State != api.RefFrozen || frozen.Same != 3 || frozen.Good != fix(2, 5, 5, 8) {
		t.Errorf("three equal fixes: %v", frozen)
	}
	if again, _ := monitor.Step(reference, frozen, fix(4, 5, 6, 9)); again.State != api.RefGood || again.Same != 1 {
		t.Errorf("moved again: %v", again)
	}
	if jumped, _ := monitor.Run(api.Reference{Stale: 1, Freeze: 1}, []api.Fix{fix(1, 0, 0, 1), fix(2, 50, 0, 1)}); jumped.State != api.RefJumped {
		t.Errorf("jumped comes before frozen: %v", jumped)
	}
	never := api.Reference{Stale: 1}
	if track, _ := monitor.Run(never, []api.Fix{fix(1, 5, 5, 9), fix(2, 5, 5, 9), fix(3, 5, 5, 9)}); track.State != api.RefGood || track.Same != 3 {
		t.Errorf("Freeze 0: %v", track)
	}
}

func TestErrorsOfTracks(t *testing.T) {
	good := api.Track{Last: fix(10, 0, 0, 1), Good: fix(9, 0, 0, 1), Seen: true, Same: 1, State: api.RefGood}
	bad := []api.Track{good, good, good, good}
	bad[0].Last.Error, bad[1].Good.Time, bad[2].Same, bad[3].Same = 0, -1, 0, api.MaxTime+1
	for _, track := range bad {
		if got, e := monitor.Step(reference, track, fix(11, 0, 0, 1)); e != api.ErrRange || got != (api.Track{}) {
			t.Errorf("Step of %v: error %d", track, e)
		}
		if got, e := monitor.Tick(reference, track, 11); e != api.ErrRange || got != (api.Track{}) {
			t.Errorf("Tick of %v: error %d", track, e)
		}
		track.Seen = false
		if got, e := monitor.Tick(reference, track, 11); e != api.OK || got != track {
			t.Errorf("Tick of %v, not seen: error %d", track, e)
		}
	}
	old := good
	old.Same = api.MaxTime
	if got, e := monitor.Step(reference, old, fix(11, 0, 0, 1)); e != api.OK || got.State != api.RefFrozen {
		t.Errorf("as many equal fixes as can be: %v, error %d", got, e)
	}
	for _, time := range []int{9, 10} {
		if got, e := monitor.Step(reference, good, fix(time, 0, 0, 1)); e != api.ErrTime || got != (api.Track{}) {
			t.Errorf("Step back to %d: error %d", time, e)
		}
	}
}

func TestTick(t *testing.T) {
	track := api.Track{Last: fix(10, 0, 0, 1), Good: fix(10, 0, 0, 1), Seen: true, Same: 1, State: api.RefGood}
	for time, state := range map[int]int{10: api.RefGood, 14: api.RefGood, 15: api.RefStale, 99: api.RefStale} {
		want := track
		want.State = state
		if got, e := monitor.Tick(reference, track, time); got != want || e != api.OK {
			t.Errorf("at %d: %v, error %d", time, got, e)
		}
	}
	for time, want := range map[int]api.Errno{9: api.ErrTime, -1: api.ErrRange, api.MaxTime + 1: api.ErrRange} {
		if got, e := monitor.Tick(reference, track, time); got != (api.Track{}) || e != want {
			t.Errorf("at %d: %v, error %d", time, got, e)
		}
	}
	if got, e := monitor.Tick(reference, api.Track{}, 1000); got != (api.Track{}) || e != api.OK {
		t.Errorf("a new track: %v, error %d", got, e)
	}
}

func TestRun(t *testing.T) {
	before, _ := monitor.Run(reference, []api.Fix{fix(1, 0, 0, 1)})
	if got, e := monitor.Run(reference, []api.Fix{fix(1, 0, 0, 1), fix(1, 5, 0, 1), fix(2, 0, 0, 1)}); got != before || e != api.ErrTime {
		t.Errorf("Run with an error: %v, error %d", got, e)
	}
	if got, e := monitor.Run(reference, nil); got != (api.Track{}) || e != api.OK {
		t.Errorf("Run of nothing: %v, error %d", got, e)
	}
}

func TestUsable(t *testing.T) {
	for state := -1; state < 6; state++ {
		if monitor.Usable(api.Track{State: state}) != (state == api.RefGood) {
			t.Errorf("the state %d", state)
		}
	}
}
