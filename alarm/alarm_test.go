package alarm_test

import (
	"fmt"
	"math/rand"
	"testing"

	"dynpos/alarm"
	"dynpos/api"
)

func same(t *testing.T, name string, got, want any) {
	t.Helper()
	if g, w := fmt.Sprint(got), fmt.Sprint(want); g != w {
		t.Errorf("%s: %s, not %s", name, g, w)
	}
}

func one(number, urgency, state, since int) api.Alarm {
	return api.Alarm{Number: number, Urgency: urgency, State: state, Since: since}
}

const raised, seen, gone = api.AlarmRaised, api.AlarmSeen, api.AlarmGone

func list(l ...api.Alarm) []api.Alarm { return append([]api.Alarm{}, l...) }

// full is a list of the greatest length, with even numbers.
func full() []api.Alarm {
	var l []api.Alarm
	for i := range api.MaxAlarms {
		l = append(l, one(2*i, 1, raised, 0))
	}
	return l
}

func TestCheck(t *testing.T) {
	same(t, "valid", []api.Errno{alarm.Check(nil, 0), alarm.Check(full(), 0), alarm.Check(list(one(0, 1, 1, 0), one(999, 9, 3, api.MaxTime)), api.MaxTime)}, []api.Errno{0, 0, 0})
	for i, x := range []struct {
		l    []api.Alarm
		time int
		want api.Errno
	}{
		{append(full(), one(-1, 1, 1, 0)), -1, api.ErrRange}, {nil, api.MaxTime + 1, api.ErrRange}, {append(full(), one(-1, 1, 1, 0)), 5, api.ErrLimit}, {list(one(-1, 1, 1, 0)), 5, api.ErrAlarm}, {list(one(1000, 1, 1, 0)), 5, api.ErrAlarm}, {list(one(1, 0, 1, 0)), 5, api.ErrAlarm}, {list(one(1, 10, 1, 0)), 5, api.ErrAlarm}, {list(one(1, 1, 0, 0)), 5, api.ErrAlarm}, {list(one(1, 1, 4, 0)), 5, api.ErrAlarm}, {list(one(1, 1, 1, -1)), 5, api.ErrAlarm}, {list(one(1, 1, 1, 6)), 5, api.ErrAlarm}, {list(one(1, 1, 1, 0), one(1, 1, 1, 0)), 5, api.ErrAlarm}, {list(one(2, 1, 1, 0), one(1, 1, 1, 0)), 5, api.ErrAlarm},
	} {
		name := fmt.Sprint(i)
		a, e1 := alarm.Raise(x.l, -1, 0, x.time)
		b, e2 := alarm.Clear(x.l, -1, x.time)
		c, e3 := alarm.See(x.l, -1, x.time)
		d, e4 := alarm.Update(x.l, list(one(-1, 0, 0, 0)), x.time)
		u, e5 := alarm.Update(x.l, nil, x.time)
		same(t, name, []any{alarm.Check(x.l, x.time), a, e1, b, e2, c, e3, d, e4, u, e5}, []any{x.want, []int{}, x.want, []int{}, x.want, []int{}, x.want, []int{}, x.want, []int{}, x.want})
	}
}

func TestRaise(t *testing.T) {
	l := list(one(3, 2, raised, 1), one(5, 2, seen, 2), one(7, 2, gone, 3))
	for _, x := range []struct {
		number int
		want   []api.Alarm
	}{
		{3, l}, {5, l}, {7, list(l[0], l[1], one(7, 4, raised, 9))}, {0, list(one(0, 4, raised, 9), l[0], l[1], l[2])}, {4, list(l[0], one(4, 4, raised, 9), l[1], l[2])}, {999, list(l[0], l[1], l[2], one(999, 4, raised, 9))},
	} {
		got, e := alarm.Raise(l, x.number, 4, 9)
		same(t, fmt.Sprint(x.number), []any{got, e}, []any{x.want, api.OK})
	}
	for _, x := range [][2]int{{-1, 4}, {1000, 4}, {3, 0}, {3, 10}} {
		got, e := alarm.Raise(full(), x[0], x[1], 9)
		same(t, fmt.Sprint(x), []any{got, e}, []any{[]int{}, api.ErrRange})
	}
	got, e := alarm.Raise(full(), 1, 1, 9)
	same(t, "too many", []any{got, e}, []any{[]int{}, api.ErrLimit})
	got, e = alarm.Raise(full(), 2, 1, 9)
	same(t, "there already", []any{got, e}, []any{full(), api.OK})
	same(t, "the argument", l[2], one(7, 2, gone, 3))
}

func TestClearAndSee(t *testing.T) {
	l := list(one(3, 2, raised, 1), one(5, 2, seen, 2), one(7, 2, gone, 3))
	for number, want := range map[int][]api.Alarm{3: {one(3, 2, gone, 1), l[1], l[2]}, 5: {l[0], l[2]}, 7: l, 4: l, -1: l, 1000: l} {
		got, e := alarm.Clear(l, number, 9)
		same(t, fmt.Sprint(number), []any{got, e}, []any{want, api.OK})
	}
	for _, x := range []struct {
		number int
		want   []api.Alarm
		e      api.Errno
	}{{3, list(one(3, 2, seen, 1), l[1], l[2]), api.OK}, {7, l[:2], api.OK}, {5, nil, api.ErrAlarm}, {4, nil, api.ErrAlarm}, {-1, nil, api.ErrAlarm}} {
		got, e := alarm.See(l, x.number, 9)
		same(t, fmt.Sprint(x.number), []any{got, e}, []any{list(x.want...), x.e})
	}
	same(t, "the argument", l[0], one(3, 2, raised, 1))
}

func TestUpdate(t *testing.T) {
	l := list(one(3, 2, raised, 1), one(5, 2, seen, 2), one(7, 2, gone, 3), one(8, 1, seen, 3))
	got, e := alarm.Update(l, list(one(9, 3, 0, 0), one(7, 4, 99, 99), one(8, 5, 0, 0)), 9)
	want := list(one(3, 2, gone, 1), one(7, 4, raised, 9), one(8, 1, seen, 3), one(9, 3, raised, 9))
	same(t, "Update", []any{got, e}, []any{want, api.OK})
	got, e = alarm.Update(l, nil, 9)
	same(t, "no causes", []any{got, e}, []any{list(one(3, 2, gone, 1), one(7, 2, gone, 3)), api.OK})
	got, e = alarm.Update(full(), list(one(1, 1, 0, 0)), 9)
	same(t, "too many, before something is cleared", []any{got, e}, []any{[]int{}, api.ErrLimit})
	got, e = alarm.Update(l, list(one(1, 1, 0, 0), one(1, 0, 0, 0)), 9)
	same(t, "a wrong cause", []any{got, e}, []any{[]int{}, api.ErrRange})
}

func TestOrderAndFirst(t *testing.T) {
	l := list(one(1, 3, raised, 5), one(2, 1, seen, 0), one(3, 2, gone, 9), one(4, 2, raised, 8), one(5, 2, gone, 8), one(6, 3, raised, 4), one(7, 0, seen, 9))
	same(t, "Order", alarm.Order(l), []int{4, 5, 3, 6, 1, 7, 2})
	n, ok := alarm.First(l)
	same(t, "First", []any{n, ok}, []any{2, true})
	n, ok = alarm.First(list(one(9, 1, gone, 1), one(8, 1, raised, 5), one(6, 1, seen, 5), one(7, 1, raised, 5)))
	same(t, "the least one", []any{n, ok}, []any{6, true})
	n, ok = alarm.First(list(one(9, 1, gone, 1)))
	same(t, "none", []any{n, ok, alarm.Order(nil)}, []any{0, false, []int{}})
	same(t, "other states are not among those that nobody has seen", alarm.Order(list(one(1, 1, 0, 0), one(2, 9, raised, 9), one(3, 0, 77, -1))), []int{2, 3, 1})
}

func TestNoneIsLost(t *testing.T) {
	r := rand.New(rand.NewSource(23))
	for range 200 {
		var l []api.Alarm
		for time := range 40 {
			var causes []api.Alarm
			for n := range 4 {
				if r.Intn(2) == 0 {
					causes = append(causes, one(n, 1+n, 0, 0))
				}
			}
			next, e := alarm.Update(l, causes, time)
			again, _ := alarm.Update(next, causes, time)
			if e != api.OK || alarm.Check(next, time) != api.OK || fmt.Sprint(again) != fmt.Sprint(next) {
				t.Fatalf("%v, %v: %v, error %d", l, causes, next, e)
			}
			for _, a := range l {
				if there := fmt.Sprint(next); a.State != seen && !contains(next, a.Number) {
					t.Fatalf("%v is lost: %s", a, there)
				}
			}
			l = next
			if after, e := alarm.See(l, r.Intn(4), time); e == api.OK {
				l = after
			}
		}
	}
}

// contains reports whether a list has an alarm with a number.
func contains(l []api.Alarm, number int) bool {
	for _, a := range l {
		if a.Number == number {
			return true
		}
	}
	return false
}
