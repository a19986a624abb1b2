package frame_test

import (
	"math"
	"testing"

	"dynpos/angle"
	"dynpos/api"
	"dynpos/frame"
)

const most = api.MaxPosition

var wild = []api.Point{{X: most + 1}, {X: -most - 1}, {Y: most + 1}, {Y: -most - 1}, {X: math.MinInt}, {Y: math.MaxInt}}

func TestValid(t *testing.T) {
	for _, p := range []api.Point{{}, {X: most, Y: -most}, {X: -most, Y: most}} {
		if !frame.Valid(p) {
			t.Errorf("%v is not valid", p)
		}
	}
	for _, p := range wild {
		if frame.Valid(p) {
			t.Errorf("%v is valid", p)
		}
	}
}

func TestAddAndSub(t *testing.T) {
	a, b := api.Point{X: 10, Y: -20}, api.Point{X: 3, Y: 4}
	if p, e := frame.Add(a, b); p != (api.Point{X: 13, Y: -16}) || e != api.OK {
		t.Errorf("Add: %v, error %d", p, e)
	}
	if p, e := frame.Sub(a, b); p != (api.Point{X: 7, Y: -24}) || e != api.OK {
		t.Errorf("Sub: %v, error %d", p, e)
	}
	edge := api.Point{X: most, Y: -most}
	if p, e := frame.Add(edge, api.Point{X: 1}); p != (api.Point{}) || e != api.ErrRange {
		t.Errorf("Add over the edge: %v, error %d", p, e)
	}
	if p, e := frame.Sub(edge, api.Point{Y: 1}); p != (api.Point{}) || e != api.ErrRange {
		t.Errorf("Sub over the edge: %v, error %d", p, e)
	}
	over := api.Point{X: most + 1}
	for i, f := range []func() (api.Point, api.Errno){
		func() (api.Point, api.Errno) { return frame.Add(over, api.Point{X: -5}) }, func() (api.Point, api.Errno) { return frame.Add(api.Point{X: -5}, over) },
		func() (api.Point, api.Errno) { return frame.Sub(over, api.Point{X: 5}) }, func() (api.Point, api.Errno) { return frame.Sub(api.Point{X: 5}, over) },
	} {
		if p, e := f(); p != (api.Point{}) || e != api.ErrRange {
			t.Errorf("%d: back from over the edge: %v, error %d", i, p, e)
		}
	}
	if p, e := frame.Sub(edge, edge); p != (api.Point{}) || e != api.OK {
		t.Errorf("Sub at the edge: %v, error %d", p, e)
	}
}

func TestDistances(t *testing.T) {
	for _, x := range []struct{ ax, ay, bx, by, box, distance int }{
		{0, 0, 3, 4, 4, 5}, {0, 0, 1, 1, 1, 2}, {5, 5, 5, 5, 0, 0}, {-3, 0, 0, -4, 4, 5}, {0, 0, 0, -7, 7, 7}, {most, most, -most, -most, 2 * most, 282842713}, {0, 0, 1000, 1, 1000, 1001},
	} {
		a, b := api.Point{X: x.ax, Y: x.ay}, api.Point{X: x.bx, Y: x.by}
		box, e := frame.Box(a, b)
		distance, f := frame.Distance(b, a)
		if box != x.box || distance != x.distance || e != api.OK || f != api.OK {
			t.Errorf("%v and %v: %d and %d", a, b, box, distance)
		}
	}
}

func TestWildPoints(t *testing.T) {
	for _, p := range wild {
		for _, pair := range [][2]api.Point{{p, {}}, {{}, p}, {p, p}} {
			_, e1 := frame.Add(pair[0], pair[1])
			_, e2 := frame.Sub(pair[0], pair[1])
			box, e3 := frame.Box(pair[0], pair[1])
			distance, e4 := frame.Distance(pair[0], pair[1])
			if e1 != api.ErrRange || e2 != api.ErrRange || e3 != api.ErrRange || e4 != api.ErrRange || box != 0 || distance != 0 {
				t.Errorf("%v: %d %d %d %d", pair, e1, e2, e3, e4)
			}
		}
		for _, f := range []func(x, y, a int) (int, int, api.Errno){frame.Turn, frame.Earth, frame.Body} {
			if x, y, e := f(p.X, p.Y, 0); x != 0 || y != 0 || e != api.ErrRange {
				t.Errorf("turned %v: %d %d, error %d", p, x, y, e)
			}
		}
	}
}

func TestTurn(t *testing.T) {
	for _, x := range []struct{ x, y, a, ahead, right int }{
		{100, 0, 900, 0, 100}, {100, 0, 0, 100, 0}, {0, 100, 900, -100, 0}, {12, 34, 1800, -12, -34}, {most, -most, 900, most, most}, {100, 0, 300, 86, 50}, {100, 0, -300, 86, -50}, {1, 0, 300, 1, 1}, {-1, 0, 300, -1, 0}, {100, 0, 4500, 0, 100},
	} {
		ahead, right, e := frame.Turn(x.x, x.y, x.a)
		if ahead != x.ahead || right != x.right || e != api.OK {
			t.Errorf("%v: %d, %d, error %d", x, ahead, right, e)
		}
	}
}

func TestEarthAndBody(t *testing.T) {
	for a := -4000; a < 8000; a += 37 {
		for _, p := range []api.Point{{X: 1000}, {Y: -777}, {X: 123456, Y: -9876543}, {X: most, Y: most}} {
			tx, ty, _ := frame.Turn(p.X, p.Y, a)
			ex, ey, _ := frame.Earth(p.X, p.Y, a)
			if tx != ex || ty != ey {
				t.Errorf("Earth of %v and %d is not Turn", p, a)
			}
			tx, ty, _ = frame.Turn(p.X, p.Y, -angle.Norm(a))
			bx, by, e := frame.Body(p.X, p.Y, a)
			if tx != bx || ty != by || e != api.OK {
				t.Errorf("Body of %v and %d is not Turn", p, a)
			}
		}
	}
	x, y, _ := frame.Turn(5000, 7000, 333)
	x, y, _ = frame.Turn(x, y, -333)
	if d := 12000/200 + 2; x < 5000-d || x > 5000+d || y < 7000-d || y > 7000+d {
		t.Errorf("turned and back: %d, %d", x, y)
	}
	if bx, by, _ := frame.Body(10, 20, math.MinInt); bx*bx+by*by > 600 || bx*bx+by*by < 400 {
		t.Errorf("Body with the least heading: %d, %d", bx, by)
	}
}
