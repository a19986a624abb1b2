package fuse_test

import (
	"math"
	"math/rand"
	"testing"

	"dynpos/api"
	"dynpos/fuse"
)

const m = api.MaxPosition

func fix(x, y, err int) api.Fix { return api.Fix{X: x, Y: y, Error: err} }

func TestWeight(t *testing.T) {
	for err, want := range map[int]int{1: 1000000000, 2: 250000000, 3: 111111111, 31622: 1, 31623: 1, 22361: 1, 22360: 2, 100000: 1, 0: 0, -1: 0, 100001: 0, math.MaxInt: 0, math.MinInt: 0} {
		if got := fuse.Weight(err); got != want {
			t.Errorf("Weight of %d: %d", err, got)
		}
	}
}

func TestFuse(t *testing.T) {
	for _, x := range []struct {
		l     []api.Fix
		x, y  int
		bound int
	}{
		{[]api.Fix{fix(0, 0, 10), fix(10, 0, 10)}, 5, 0, 15},
		{[]api.Fix{fix(7, -8, 3)}, 7, -8, 3},
		{[]api.Fix{fix(0, 0, 10), fix(1, 1, 10)}, 1, 1, 11},
		{[]api.Fix{fix(0, 0, 10), fix(-1, -1, 10)}, 0, 0, 11},
		{[]api.Fix{fix(0, 0, 10), fix(100, 50, 20)}, 20, 10, 100},     // weights 1000 and 250
		{[]api.Fix{fix(0, 0, 1), fix(1001, 0, 100000)}, 1, 0, 101000}, // the least weight is 1, rounded up
		{[]api.Fix{fix(m, m, 100000), fix(m, -m, 100000)}, m, 0, m + 100000},
		{[]api.Fix{fix(0, 0, 3), fix(900, 0, 4)}, 324, 0, 580}, // weights 1000 and 563
	} {
		p, bound, e := fuse.Fuse(x.l)
		if p != (api.Point{X: x.x, Y: x.y}) || bound != x.bound || e != api.OK {
			t.Errorf("%v: %v, %d, error %d", x.l, p, bound, e)
		}
	}
}

// half is n / d rounded half up.
func half(n, d int) int { return int(math.Floor(float64(2*n+d) / float64(2*d))) }

func TestFuseByItsDefinition(t *testing.T) {
	r := rand.New(rand.NewSource(32))
	for range 3000 {
		var l []api.Fix
		greatest := 0
		for range 1 + r.Intn(8) {
			f := fix(r.Intn(4001)-2000, r.Intn(4001)-2000, 1+r.Intn(100))
			if r.Intn(3) == 0 {
				f.Error = 1 + r.Intn(100000)
			}
			l, greatest = append(l, f), max(greatest, fuse.Weight(f.Error))
		}
		sum, x, y := 0, 0, 0
		for _, f := range l {
			w := (1000*fuse.Weight(f.Error) + greatest - 1) / greatest
			sum, x, y = sum+w, x+w*f.X, y+w*f.Y
		}
		want, bound := api.Point{X: half(x, sum), Y: half(y, sum)}, 0
		for _, f := range l {
			bound = max(bound, f.Error+max(f.X-want.X, want.X-f.X, f.Y-want.Y, want.Y-f.Y))
		}
		if p, b, e := fuse.Fuse(l); p != want || b != bound || e != api.OK {
			t.Fatalf("%v: %v and %d, not %v and %d", l, p, b, want, bound)
		}
	}
}

func TestErrors(t *testing.T) {
	for _, x := range []struct {
		l    []api.Fix
		want api.Errno
	}{
		{nil, api.ErrNone}, {make([]api.Fix, 9), api.ErrLimit}, {[]api.Fix{fix(0, 0, 0)}, api.ErrRange}, {[]api.Fix{fix(0, 0, 1), fix(0, 0, 100001)}, api.ErrRange}, {[]api.Fix{fix(m+1, 0, 1)}, api.ErrRange}, {[]api.Fix{fix(0, math.MinInt, 1)}, api.ErrRange},
	} {
		p, bound, e := fuse.Fuse(x.l)
		if p != (api.Point{}) || bound != 0 || e != x.want {
			t.Errorf("Fuse of %v: %v, %d, error %d", x.l, p, bound, e)
		}
		for _, f := range []func([]api.Fix) (api.Point, api.Point, bool){fuse.Common, fuse.Hull} {
			if low, high, ok := f(x.l); low != (api.Point{}) || high != (api.Point{}) || ok {
				t.Errorf("the box of %v: %v, %v", x.l, low, high)
			}
		}
	}
}

func TestBoxes(t *testing.T) {
	l := []api.Fix{fix(0, 0, 10), fix(15, -5, 6), fix(5, 5, 20)}
	if low, high, ok := fuse.Common(l); low != (api.Point{X: 9, Y: -10}) || high != (api.Point{X: 10, Y: 1}) || !ok {
		t.Errorf("Common: %v, %v, %v", low, high, ok)
	}
	if low, high, ok := fuse.Hull(l); low != (api.Point{X: -15, Y: -15}) || high != (api.Point{X: 25, Y: 25}) || !ok {
		t.Errorf("Hull: %v, %v, %v", low, high, ok)
	}
	if low, high, ok := fuse.Common([]api.Fix{fix(0, 0, 10), fix(0, 20, 10)}); low != (api.Point{X: -10, Y: 10}) || high != (api.Point{X: 10, Y: 10}) || !ok {
		t.Errorf("boxes one above the other: %v, %v, %v", low, high, ok)
	}
	touching := []api.Fix{fix(0, 0, 10), fix(20, 0, 10)}
	if low, high, ok := fuse.Common(touching); low != (api.Point{X: 10, Y: -10}) || high != (api.Point{X: 10, Y: 10}) || !ok {
		t.Errorf("touching boxes: %v, %v, %v", low, high, ok)
	}
	for _, apart := range [][]api.Fix{{fix(0, 0, 10), fix(21, 0, 10)}, {fix(0, 0, 10), fix(0, -21, 10)}} {
		if low, high, ok := fuse.Common(apart); low != (api.Point{}) || high != (api.Point{}) || ok {
			t.Errorf("boxes that are apart: %v, %v, %v", low, high, ok)
		}
	}
	if low, high, ok := fuse.Hull([]api.Fix{fix(m, -m, 100000)}); low != (api.Point{X: m - 100000, Y: -m - 100000}) || high != (api.Point{X: m + 100000, Y: -m + 100000}) || !ok {
		t.Errorf("the box at the edge: %v, %v, %v", low, high, ok)
	}
}

func TestTruePlaceIsWithinTheBound(t *testing.T) {
	r := rand.New(rand.NewSource(3))
	for range 2000 {
		var l []api.Fix
		for range 1 + r.Intn(8) {
			l = append(l, fix(r.Intn(2000)-1000, r.Intn(2000)-1000, 1+r.Intn(500)))
		}
		mean, bound, _ := fuse.Fuse(l)
		low, high, _ := fuse.Hull(l)
		if mean.X < low.X || mean.X > high.X || mean.Y < low.Y || mean.Y > high.Y {
			t.Fatalf("%v: the mean %v is outside", l, mean)
		}
		f := l[r.Intn(len(l))]
		x, y := f.X+r.Intn(2*f.Error+1)-f.Error, f.Y+r.Intn(2*f.Error+1)-f.Error
		if max(x-mean.X, mean.X-x, y-mean.Y, mean.Y-y) > bound {
			t.Fatalf("%v: (%d, %d) is more than %d from %v", l, x, y, bound, mean)
		}
	}
}

func TestGrow(t *testing.T) {
	for _, x := range []struct {
		bound, speed, ticks, want int
		e                         api.Errno
	}{
		{100, 10, 10, 200, api.OK}, {0, 0, 0, 0, api.OK}, {5, 0, api.MaxTime, 5, api.OK}, {2*m - 5, 5, 1, 2 * m, api.OK}, {2*m - 5, 6, 1, 2 * m, api.OK}, {0, 1000, api.MaxTime, 2 * m, api.OK}, {2 * m, 1, 1, 2 * m, api.OK},
		{-1, 0, 0, 0, api.ErrRange}, {2*m + 1, 0, 0, 0, api.ErrRange}, {0, -1, 0, 0, api.ErrRange}, {0, 1001, 0, 0, api.ErrRange}, {0, 0, -1, 0, api.ErrRange}, {0, 0, api.MaxTime + 1, 0, api.ErrRange},
	} {
		if got, e := fuse.Grow(x.bound, x.speed, x.ticks); got != x.want || e != x.e {
			t.Errorf("%v: %d, error %d", x, got, e)
		}
	}
}
