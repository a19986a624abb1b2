package script_test

import (
	"fmt"
	"math"
	"math/rand"
	"strings"
	"testing"

	"dynpos/api"
	"dynpos/example"
	"dynpos/script"
	"dynpos/voyage"
)

func same(t *testing.T, name string, got, want any) {
	t.Helper()
	if g, w := fmt.Sprint(got), fmt.Sprint(want); g != w {
		t.Errorf("%s: %s, not %s", name, g, w)
	}
}

func command(kind int, numbers ...int) api.Command { return api.Command{Kind: kind, Numbers: numbers} }

// every has a command of each kind, and its text.
var every = []struct {
	c    api.Command
	text string
}{
	{command(api.CommandAct, 1, 2, -3), "act 1 2 -3\n"}, {command(api.CommandBreak, 1, 0), "break 1 0\n"}, {command(api.CommandMend, 9, 63), "mend 9 63\n"}, {command(api.CommandWeather, 1, 2, 3, 4, 5, 6, 7), "weather 1 2 3 4 5 6 7\n"}, {command(api.CommandFix, 0, -1000000000, 1000000000, 50), "fix 0 -1000000000 1000000000 50\n"}, {command(api.CommandRequest, 2), "request 2\n"}, {command(api.CommandSeen, 999), "seen 999\n"}, {command(api.CommandTick, 60), "tick 60\n"},
}

func TestValid(t *testing.T) {
	for _, x := range every {
		c := x.c
		same(t, x.text, script.Valid(c), true)
		same(t, x.text, []bool{script.Valid(command(c.Kind, c.Numbers[1:]...)), script.Valid(command(c.Kind, append(c.Numbers, 1)...)), script.Valid(command(c.Kind))}, []bool{false, false, false})
		for i := range c.Numbers {
			for _, n := range []int{1000000001, -1000000001, math.MinInt} {
				wrong := append([]int{}, c.Numbers...)
				wrong[i] = n
				same(t, x.text, script.Valid(command(c.Kind, wrong...)), false)
			}
		}
	}
	same(t, "kinds and ticks", []bool{script.Valid(command(0)), script.Valid(command(9)), script.Valid(command(-1, 1)), script.Valid(command(8, 0)), script.Valid(command(8, 61)), script.Valid(command(8, 1)), script.Valid(command(6, -5))}, []bool{false, false, false, false, false, true, true})
}

func TestFormatAndParse(t *testing.T) {
	var l []api.Command
	whole := ""
	for _, x := range every {
		text, e := script.Format([]api.Command{x.c})
		same(t, x.text, []any{text, e}, []any{x.text, api.OK})
		back, i, e := script.Parse(x.text)
		same(t, x.text, []any{back, i, e}, []any{[]api.Command{x.c}, 0, api.OK})
		l, whole = append(l, x.c), whole+x.text
	}
	text, _ := script.Format(l)
	back, i, e := script.Parse(text)
	same(t, "all", []any{text, back, i, e}, []any{whole, l, 0, api.OK})
	text, e = script.Format(nil)
	back, i, f := script.Parse("")
	same(t, "nothing", []any{text, e, back, i, f}, []any{"", api.OK, []int{}, 0, api.OK})
}

func TestFormatErrors(t *testing.T) {
	many := make([]api.Command, 81)
	for i := range many {
		many[i] = command(api.CommandTick, 1)
	}
	_, e := script.Format(many[:80])
	same(t, "80", e, api.OK)
	for _, x := range []struct {
		l    []api.Command
		want api.Errno
	}{{many, api.ErrLimit}, {make([]api.Command, 81), api.ErrLimit}, {[]api.Command{many[0], {}}, api.ErrText}} {
		text, e := script.Format(x.l)
		same(t, "Format", []any{text, e}, []any{"", x.want})
	}
}

func TestParseErrors(t *testing.T) {
	good := "tick 1\n"
	for _, x := range []struct {
		text  string
		index int
		e     api.Errno
	}{
		{strings.Repeat("x\n", 81), 80, api.ErrLimit}, {strings.Repeat(good, 80) + "x", 80, api.ErrLimit}, {strings.Repeat(good, 79) + "x", 79, api.ErrText}, {strings.Repeat(good, 79) + "tick 1", 79, api.ErrText}, {good + "\n" + "x", 1, api.ErrText}, {"\n", 0, api.ErrText},
		{"tick 1", 0, api.ErrText}, {"tick  1\n", 0, api.ErrText}, {" tick 1\n", 0, api.ErrText}, {"tick 1 \n", 0, api.ErrText}, {"tick 1\r\n", 0, api.ErrText}, {"tick 01\n", 0, api.ErrText}, {"tick +1\n", 0, api.ErrText}, {"tick 0\n", 0, api.ErrText}, {"tick 61\n", 0, api.ErrText}, {"tick\n", 0, api.ErrText}, {"tick x\n", 0, api.ErrText}, {"Tick 1\n", 0, api.ErrText}, {"seen -0\n", 0, api.ErrText}, {"seen 00\n", 0, api.ErrText}, {"seen 1000000001\n", 0, api.ErrText}, {"seen 99999999999999999999\n", 0, api.ErrText}, {"act 1 2\n", 0, api.ErrText}, {"act 1 2 3 4\n", 0, api.ErrText}, {good + good + "mend 1 0 0\n" + "x\n", 2, api.ErrText}, {"weather 1 2 3 4 5 6 7 8\n", 0, api.ErrText}, {"weather" + strings.Repeat(" 1", 20) + "\n", 0, api.ErrText}, {"1\n", 0, api.ErrText},
	} {
		l, i, e := script.Parse(x.text)
		same(t, fmt.Sprintf("%q", x.text), []any{l, i, e}, []any{[]int{}, x.index, x.e})
	}
	l, _, e := script.Parse(strings.Repeat(good, 80))
	same(t, "80 lines", []any{len(l), e}, []any{80, api.OK})
}

func TestInputs(t *testing.T) {
	l := []api.Command{command(2, 1, 0), command(1, 3, 1, 2), command(5, 2, 10, -20, 30), command(7, 4), command(8, 2), command(6, 1), command(4, 1, 2, 3, 4, 5, 6, 7), command(6, 2), command(3, 1, 0), command(1, 2, 5, 0), command(1, 4, 0, 0), command(2, 9, 1), command(5, 0, 1, 2, 3), command(5, 1, 1, 2, 3), command(8, 1), command(7, 9), command(7, 8), command(8, 1), command(6, 3), command(4, 9, 9, 9, 9, 9, 9, 9)}
	w := api.Weather{Wind: api.Flow{From: 1, Speed: 2}, Current: api.Flow{From: 3, Speed: 4}, Wave: api.Flow{From: 5, Speed: 6}}
	sight := func(reference, time, x, y, err int) api.Sight {
		return api.Sight{Reference: reference, Fix: api.Fix{Time: time, X: x, Y: y, Error: err}}
	}
	want := []api.Input{
		{Faults: []api.Fault{{Kind: 1, Part: api.Part{Kind: 1}}}, Acts: []api.Act{{Kind: 3, Unit: 1, Value: 2}}, Sights: []api.Sight{sight(2, 101, 10, -20, 30)}, Seen: []int{4}},
		{},
		{Weather: w, Heading: 7, Request: 2, Faults: []api.Fault{{Kind: 2, Part: api.Part{Kind: 1}}, {Kind: 1, Part: api.Part{Kind: 9, Number: 1}}}, Acts: []api.Act{{Kind: 2, Unit: 5}, {Kind: 4}}, Sights: []api.Sight{sight(0, 103, 1, 2, 3), sight(1, 103, 1, 2, 3)}},
		{Weather: w, Heading: 7, Seen: []int{9, 8}},
	}
	got, e := script.Inputs(l, 100)
	same(t, "Inputs", []any{got, e}, []any{want, api.OK})
	got, e = script.Inputs(nil, api.MaxTime)
	same(t, "nothing", []any{got, e}, []any{[]int{}, api.OK})
}

func TestInputsErrors(t *testing.T) {
	tick := func(n int) api.Command { return command(api.CommandTick, n) }
	many := make([]api.Command, 81)
	for i := range many {
		many[i] = command(api.CommandSeen, 1)
	}
	for i, x := range []struct {
		l    []api.Command
		time int
		want api.Errno
	}{{many, -1, api.ErrLimit}, {make([]api.Command, 81), 0, api.ErrLimit}, {[]api.Command{tick(60), {}, tick(1)}, -1, api.ErrLimit}, {[]api.Command{tick(60), tick(61)}, -1, api.ErrText}, {[]api.Command{{}}, -1, api.ErrText}, {nil, -1, api.ErrRange}, {nil, api.MaxTime + 1, api.ErrRange}, {[]api.Command{tick(30), tick(30)}, api.MaxTime, api.OK}, {many[:80], 0, api.OK}} {
		got, e := script.Inputs(x.l, x.time)
		same(t, fmt.Sprint(i), e, x.want)
		if e != api.OK {
			same(t, fmt.Sprint(i), got, []int{})
			s := api.State{}
			s.Plant.Time = x.time
			next, e := script.Run(example.Vessel(), s, x.l)
			same(t, fmt.Sprint(i), []any{next, e}, []any{api.State{}, x.want})
		}
	}
}

func TestRun(t *testing.T) {
	v := example.Vessel()
	s, _ := voyage.New(v)
	weather := "weather 300 500 0 0 0 0 300\n"
	first := weather + "act 3 0 0\nact 3 1 0\ntick 3\n"
	second := weather + "act 1 1 0\nact 1 2 0\nact 1 3 0\nfix 0 1000 -500 100\nfix 1 1000 -500 100\ntick 2\nseen 1\nbreak 5 0\ntick 1\n"
	read := func(text string) []api.Command {
		l, _, e := script.Parse(text)
		same(t, "Parse", e, api.OK)
		return l
	}
	whole, e := script.Run(v, s, read(first+second))
	same(t, "error", []any{e, whole.Plant.Time, whole.Broken, whole.Estimate.State}, []any{api.OK, 6, []api.Part{{Kind: 5}}, api.EstimateGood})
	middle, e := script.Run(v, s, read(first))
	same(t, "error", e, api.OK)
	last, e := script.Run(v, middle, read(second))
	same(t, "in two parts", []any{last, e}, []any{whole, api.OK})
	inputs, _ := script.Inputs(read(first), 0)
	again, _ := voyage.Run(v, s, inputs)
	same(t, "by the inputs", again, middle)
	next, e := script.Run(v, s, read("weather 0 0 0 0 0 0 3600\ntick 1\n"))
	same(t, "an error of the ship", []any{next, e}, []any{api.State{}, api.ErrRange})
}

func TestParseOfFormat(t *testing.T) {
	r := rand.New(rand.NewSource(27))
	for range 300 {
		var l []api.Command
		for range r.Intn(20) {
			x := every[r.Intn(len(every))].c
			numbers := make([]int, len(x.Numbers))
			for i := range numbers {
				numbers[i] = 1 + r.Intn(60)
				if x.Kind != api.CommandTick && r.Intn(2) == 0 {
					numbers[i] = r.Intn(2000000001) - 1000000000
				}
			}
			l = append(l, command(x.Kind, numbers...))
		}
		text, e := script.Format(l)
		back, _, f := script.Parse(text)
		same(t, text, []any{back, e, f}, []any{append([]api.Command{}, l...), api.OK, api.OK})
	}
}
