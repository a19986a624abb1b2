package report_test

import (
	"fmt"
	"math"
	"math/rand"
	"testing"

	"dynpos/api"
	"dynpos/logbook"
	"dynpos/report"
)

func same(t *testing.T, name string, got, want any) {
	t.Helper()
	if g, w := fmt.Sprint(got), fmt.Sprint(want); g != w {
		t.Errorf("%s: %s, not %s", name, g, w)
	}
}

func book(t *testing.T, l ...api.Entry) api.Book {
	t.Helper()
	b := logbook.New()
	for _, x := range l {
		next, e := logbook.Append(b, x)
		if e != api.OK {
			t.Fatalf("%v: error %d", x, e)
		}
		b = next
	}
	return b
}

func entry(time, kind int, words ...int) api.Entry {
	return api.Entry{Time: time, Kind: kind, Words: words}
}

func TestOf(t *testing.T) {
	b := book(t, entry(0, 1, 1), entry(2, 4, 1, 0), entry(2, 4, 2, 0), entry(3, 8, 0, 0, 1), entry(3, 8, 0, 0, 1), entry(4, 1, 3), entry(5, 8, 1, 0, 0), entry(7, 5, 1, 0), entry(9, 4, 1, 0))
	for _, x := range []struct {
		from, to int
		want     api.Report
	}{
		{0, 10, api.Report{Ticks: [4]int{0, 4, 0, 6}, Worst: 1, Broken: 3, Short: 2}}, {4, 9, api.Report{Ticks: [4]int{0, 0, 0, 5}, Worst: 3, Short: 1}}, {2, 3, api.Report{Ticks: [4]int{0, 1}, Worst: 1, Broken: 2}}, {3, 4, api.Report{Ticks: [4]int{0, 1}, Worst: 1, Short: 1}}, {5, 5, api.Report{}}, {9, api.MaxTime, api.Report{Ticks: [4]int{0, 0, 0, api.MaxTime - 9}, Worst: 3, Broken: 1}},
	} {
		r, e := report.Of(b, x.from, x.to)
		same(t, fmt.Sprint(x.from, x.to), []any{r, e}, []any{x.want, api.OK})
	}
	r, _ := report.Of(book(t, entry(3, 1, 2), entry(5, 1, 7), entry(6, 1, -1), entry(8, 1, 0), entry(8, 8, 0, 0, 0)), 0, 9)
	same(t, "other values", r, api.Report{Ticks: [4]int{4, 0, 2, 0}, Worst: 2, Short: 1})
	r, _ = report.Of(logbook.New(), 0, 7)
	same(t, "an empty book", r, api.Report{Ticks: [4]int{7}})
	for i, x := range []struct {
		b        api.Book
		from, to int
		want     api.Errno
	}{{api.Book{}, -1, 5, api.ErrBook}, {b, -1, 5, api.ErrRange}, {b, 5, 4, api.ErrRange}, {b, 0, api.MaxTime + 1, api.ErrRange}} {
		r, e := report.Of(x.b, x.from, x.to)
		same(t, fmt.Sprint(i), []any{r, e}, []any{api.Report{}, x.want})
	}
}

func TestAdd(t *testing.T) {
	a := api.Report{Ticks: [4]int{1, 2, 3, 4}, Worst: 2, Broken: 5, Short: 6}
	for i, x := range []struct{ b, want api.Report }{
		{api.Report{}, a}, {api.Report{Ticks: [4]int{10, 20, 30, 40}, Worst: 1, Broken: 50, Short: 60}, api.Report{Ticks: [4]int{11, 22, 33, 44}, Worst: 1, Broken: 55, Short: 66}}, {api.Report{Worst: 3}, a},
	} {
		same(t, fmt.Sprint(i), []any{report.Add(a, x.b), report.Add(x.b, a)}, []any{x.want, x.want})
	}
	same(t, "nothing", report.Add(api.Report{}, api.Report{}), api.Report{})
}

func TestAddOfTwoTimes(t *testing.T) {
	r := rand.New(rand.NewSource(28))
	for range 300 {
		b, time := logbook.New(), 0
		for range r.Intn(12) {
			time += r.Intn(4)
			b, _ = logbook.Append(b, []api.Entry{entry(time, 1, r.Intn(4)), entry(time, 4, 1, 1), entry(time, 8, 1, 1, 1)}[r.Intn(3)])
		}
		from := r.Intn(10)
		middle := from + r.Intn(10)
		to := middle + r.Intn(10)
		whole, _ := report.Of(b, from, to)
		first, _ := report.Of(b, from, middle)
		second, _ := report.Of(b, middle, to)
		same(t, fmt.Sprint(b), report.Add(first, second), whole)
	}
}

func TestPercent(t *testing.T) {
	r := api.Report{Ticks: [4]int{0, 4, 0, 6}}
	same(t, "the example", []int{report.Percent(r, 0), report.Percent(r, 1), report.Percent(r, 2), report.Percent(r, 3), report.Percent(r, -1), report.Percent(r, 4)}, []int{0, 40, 0, 60, 0, 0})
	for i, x := range []struct {
		ticks [4]int
		level int
		want  int
	}{
		{[4]int{}, 1, 0}, {[4]int{199, 1}, 1, 1}, {[4]int{200, 1}, 1, 0}, {[4]int{197, 3}, 1, 2}, {[4]int{1, 1, 1}, 0, 33}, {[4]int{1, 2}, 1, 67}, {[4]int{-1, 5}, 1, 0}, {[4]int{5, api.MaxTime + 1}, 1, 0}, {[4]int{math.MinInt, 0, 0, 5}, 3, 0}, {[4]int{api.MaxTime, api.MaxTime, api.MaxTime, api.MaxTime}, 2, 25}, {[4]int{0, 0, api.MaxTime, 0}, 2, 100}, {[4]int{api.MaxTime, 0, 0, api.MaxTime / 2}, 3, 33},
	} {
		same(t, fmt.Sprint(i), report.Percent(api.Report{Ticks: x.ticks}, x.level), x.want)
	}
}

func TestTextAndRead(t *testing.T) {
	r := api.Report{Ticks: [4]int{7, 4, 0, 6}, Worst: 1, Broken: 3, Short: 2}
	text := "red 4 yellow 0 green 6 none 7\nworst 1\nbroken 3\nshort 2\n"
	same(t, "Text", report.Text(r), text)
	back, e := report.Read(text)
	same(t, "Read", []any{back, e}, []any{r, api.OK})
	edge := api.Report{Ticks: [4]int{api.MaxTime, api.MaxTime, api.MaxTime, api.MaxTime}, Worst: api.MaxTime, Broken: api.MaxTime, Short: api.MaxTime}
	back, e = report.Read(report.Text(edge))
	same(t, "edges", []any{back, e}, []any{edge, api.OK})
	for _, wrong := range []string{
		"", text[:len(text)-1], text + "\n", " " + text, "red 4 yellow 0 green 6 none 7\nworst 1\nbroken 3\nshort 02\n", "red 4 yellow 0 green 6 none 7\nworst 1\nbroken 3\nshort -0\n", "red 4 yellow 0 green 6 none 7\nworst -1\nbroken 3\nshort 2\n", "red 4 yellow 0 green 6 none 7\nworst 1\nbroken 3\nshort 2147483649\n", "red 4 yellow 0 green 6 none +7\nworst 1\nbroken 3\nshort 2\n", "red 4 yellow 0 green 6 none 7 worst 1\nbroken 3\nshort 2\n", "red 4  yellow 0 green 6 none 7\nworst 1\nbroken 3\nshort 2\n", "red 4 green 0 yellow 6 none 7\nworst 1\nbroken 3\nshort 2\n", "red x yellow 0 green 6 none 7\nworst 1\nbroken 3\nshort 2\n", "red 4 yellow 0 green 6 none 7\nworst 1\nbroken 3\nshort 99999999999999999999\n", report.Text(api.Report{Short: -1}),
	} {
		r, e := report.Read(wrong)
		same(t, fmt.Sprintf("%q", wrong), []any{r, e}, []any{api.Report{}, api.ErrText})
	}
}
