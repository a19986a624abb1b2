package faults_test

import (
	"fmt"
	"math"
	"math/rand"
	"testing"

	"dynpos/api"
	"dynpos/design"
	"dynpos/faults"
)

func same(t *testing.T, name string, got, want any) {
	t.Helper()
	if g, w := fmt.Sprint(got), fmt.Sprint(want); g != w {
		t.Errorf("%s: %s, not %s", name, g, w)
	}
}

var x, y = api.Part{Kind: 1, Number: 5}, api.Part{Kind: 9, Number: 2}

func begin(time int, p api.Part) api.Fault {
	return api.Fault{Time: time, Kind: api.FaultBegin, Part: p}
}

func end(time int, p api.Part) api.Fault {
	return api.Fault{Time: time, Kind: api.FaultEnd, Part: p}
}

func script(l ...api.Fault) []api.Fault { return append([]api.Fault{}, l...) }

// many returns a valid script with n faults.
func many(n int) []api.Fault {
	var l []api.Fault
	for i := range n {
		l = append(l, api.Fault{Time: i, Kind: 1 + i%2, Part: x})
	}
	return l
}

func TestCheck(t *testing.T) {
	for i, l := range [][]api.Fault{nil, script(begin(0, x), begin(0, y), end(1, x), begin(2, x), end(api.MaxTime, y)), many(24), script(begin(5, api.Part{Kind: 9, Number: 63}))} {
		same(t, fmt.Sprint(i), faults.Check(l), api.OK)
	}
	for i, c := range []struct {
		l    []api.Fault
		want api.Errno
	}{
		{make([]api.Fault, 25), api.ErrLimit}, {script(end(-1, x)), api.ErrRange}, {script(begin(api.MaxTime+1, x)), api.ErrRange}, {script(api.Fault{Part: x}), api.ErrRange}, {script(api.Fault{Kind: 3, Part: x}), api.ErrRange}, {script(begin(0, api.Part{Kind: 0})), api.ErrRange}, {script(begin(0, api.Part{Kind: 10})), api.ErrRange}, {script(begin(0, api.Part{Kind: 1, Number: 64})), api.ErrRange}, {script(begin(0, api.Part{Kind: 1, Number: -1})), api.ErrRange}, {script(begin(5, x), begin(3, y), begin(-1, y)), api.ErrRange},
		{script(begin(5, x), begin(3, y)), api.ErrOrder}, {script(begin(5, y), begin(5, x)), api.ErrOrder}, {script(begin(5, x), end(5, x)), api.ErrOrder}, {script(end(5, x), end(3, y)), api.ErrOrder}, {script(end(5, x)), api.ErrScript}, {script(begin(5, x), begin(6, x)), api.ErrScript}, {script(begin(5, x), end(6, x), end(7, x)), api.ErrScript},
	} {
		name := fmt.Sprint(i)
		breaks, mends := faults.Now(c.l, 5)
		merged, e1 := faults.Merge(c.l, nil)
		other, e2 := faults.Merge(nil, c.l)
		shifted, e3 := faults.Shift(c.l, 0)
		without, e4 := faults.Without(c.l, x)
		same(t, name, []any{faults.Check(c.l), faults.Active(c.l, 9), breaks, mends, faults.Parts(c.l), merged, e1, other, e2, shifted, e3, without, e4}, []any{c.want, []int{}, []int{}, []int{}, []int{}, []int{}, c.want, []int{}, c.want, []int{}, c.want, []int{}, c.want})
	}
	_, e := faults.Merge(script(end(5, x)), make([]api.Fault, 25))
	same(t, "the first one first", e, api.ErrScript)
}

func TestActiveNowParts(t *testing.T) {
	z := api.Part{Kind: 9, Number: 3}
	l := script(begin(3, y), begin(5, x), end(7, x), begin(7, z), end(9, y))
	for time, want := range map[int][]api.Part{-5: {}, 2: {}, 3: {y}, 5: {x, y}, 6: {x, y}, 7: {y, z}, 8: {y, z}, 9: {z}, math.MaxInt: {z}} {
		same(t, fmt.Sprint(time), faults.Active(l, time), want)
	}
	for time, want := range map[int][2][]api.Part{3: {{y}, {}}, 4: {{}, {}}, 7: {{z}, {x}}, 9: {{}, {y}}} {
		breaks, mends := faults.Now(l, time)
		same(t, fmt.Sprint(time), []any{breaks, mends}, []any{want[0], want[1]})
	}
	same(t, "Parts", faults.Parts(l), []api.Part{x, y, z})
}

func TestNormal(t *testing.T) {
	for i, c := range []struct {
		l, want []api.Fault
		e       api.Errno
	}{
		{nil, nil, api.OK}, {script(end(9, x), begin(5, x), begin(3, y)), script(begin(3, y), begin(5, x), end(9, x)), api.OK}, {script(begin(5, x), end(5, x)), nil, api.OK}, {script(end(5, x), begin(5, x)), script(begin(5, x)), api.OK}, {script(begin(5, x), begin(7, x), end(8, x), end(9, x)), script(begin(5, x), end(8, x)), api.OK}, {script(end(1, x)), nil, api.OK}, {script(begin(5, y), begin(5, x)), script(begin(5, x), begin(5, y)), api.OK}, {script(begin(1, x), begin(4, x), end(4, x), begin(4, x)), script(begin(1, x)), api.OK},
		{append(make([]api.Fault, 61), begin(-1, x)), nil, api.ErrRange}, {many(61), nil, api.ErrLimit}, {many(60), nil, api.ErrLimit}, {many(25), nil, api.ErrLimit}, {many(24), many(24), api.OK},
	} {
		got, e := faults.Normal(c.l)
		same(t, fmt.Sprint(i), []any{got, e}, []any{script(c.want...), c.e})
	}
}

func TestNormalOfManyFaults(t *testing.T) {
	l := make([]api.Fault, 61)
	for i := range l {
		l[i] = begin(i, x)
	}
	got, e := faults.Normal(l[:60])
	same(t, "60", []any{got, e}, []any{script(begin(0, x)), api.OK})
	got, e = faults.Normal(l)
	same(t, "61", []any{got, e}, []any{[]int{}, api.ErrLimit})
}

func TestMerge(t *testing.T) {
	for i, c := range []struct {
		a, b, want []api.Fault
		e          api.Errno
	}{
		{script(begin(5, x), end(9, x)), script(begin(7, x), end(12, x)), script(begin(5, x), end(12, x)), api.OK}, {script(begin(5, x), end(9, x)), script(begin(9, x), end(12, x)), script(begin(5, x), end(12, x)), api.OK}, {script(begin(5, x), end(9, x)), script(begin(5, x), end(9, x)), script(begin(5, x), end(9, x)), api.OK}, {script(begin(5, x)), script(begin(2, x), end(4, x), begin(6, x), end(8, x)), script(begin(2, x), end(4, x), begin(5, x)), api.OK}, {script(begin(5, y)), script(begin(5, x)), script(begin(5, x), begin(5, y)), api.OK}, {nil, nil, nil, api.OK},
	} {
		got, e := faults.Merge(c.a, c.b)
		same(t, fmt.Sprint(i), []any{got, e}, []any{script(c.want...), c.e})
	}
	other := many(2)
	for i := range other {
		other[i].Part = y
	}
	got, e := faults.Merge(many(24), other)
	same(t, "too many", []any{got, e}, []any{[]int{}, api.ErrLimit})
	got, e = faults.Merge(many(24), other[:1])
	same(t, "one too many", []any{got, e}, []any{[]int{}, api.ErrLimit})
	_, e = faults.Merge(many(22), other)
	same(t, "just enough", e, api.OK)
}

func TestShiftAndWithout(t *testing.T) {
	l := script(begin(5, x), begin(6, y), end(9, x))
	for ticks, want := range map[int][]api.Fault{0: l, -5: {begin(0, x), begin(1, y), end(4, x)}, 100: {begin(105, x), begin(106, y), end(109, x)}, api.MaxTime - 9: {begin(api.MaxTime-4, x), begin(api.MaxTime-3, y), end(api.MaxTime, x)}} {
		got, e := faults.Shift(l, ticks)
		same(t, fmt.Sprint(ticks), []any{got, e}, []any{want, api.OK})
	}
	for _, ticks := range []int{-6, api.MaxTime - 8, math.MinInt, math.MaxInt} {
		got, e := faults.Shift(l, ticks)
		same(t, fmt.Sprint(ticks), []any{got, e}, []any{[]int{}, api.ErrRange})
		got, e = faults.Shift(nil, ticks)
		same(t, fmt.Sprint(ticks), []any{got, e}, []any{[]int{}, api.OK})
	}
	for i, c := range []struct {
		p    api.Part
		want []api.Fault
	}{{x, script(begin(6, y))}, {y, script(begin(5, x), end(9, x))}, {api.Part{}, l}} {
		got, e := faults.Without(l, c.p)
		same(t, fmt.Sprint(i), []any{got, e}, []any{c.want, api.OK})
	}
	same(t, "the argument", l[0], begin(5, x))
}

func TestScriptsMeanTheSame(t *testing.T) {
	r := rand.New(rand.NewSource(22))
	random := func() []api.Fault {
		var l []api.Fault
		for range r.Intn(12) {
			l = append(l, api.Fault{Time: r.Intn(9), Kind: 1 + r.Intn(2), Part: api.Part{Kind: 1 + r.Intn(2), Number: r.Intn(2)}})
		}
		return l
	}
	for range 500 {
		l, m := random(), random()
		a, e := faults.Normal(l)
		b, f := faults.Normal(m)
		if e != api.OK || f != api.OK || faults.Check(a) != api.OK {
			t.Fatalf("%v: errors %d and %d", l, e, f)
		}
		again, _ := faults.Normal(a)
		same(t, "again", again, a)
		merged, e := faults.Merge(a, b)
		if e != api.OK || faults.Check(merged) != api.OK {
			t.Fatalf("%v and %v: error %d", a, b, e)
		}
		for time := range 10 {
			state := map[api.Part]bool{}
			for at := range time + 1 {
				for _, f := range l {
					if f.Time == at {
						state[f.Part] = f.Kind == api.FaultBegin
					}
				}
			}
			for p, broken := range state {
				if design.Has(faults.Active(a, time), p) != broken {
					t.Fatalf("%v became %v", l, a)
				}
			}
			same(t, "merged", faults.Active(merged, time), design.Union(faults.Active(a, time), faults.Active(b, time)))
			breaks, mends := faults.Now(a, time)
			now := design.Union(faults.Active(a, time-1), breaks)
			for _, p := range faults.Active(a, time) {
				if !design.Has(now, p) || design.Has(mends, p) {
					t.Fatalf("%v at %d", a, time)
				}
			}
		}
	}
}
