package replay_test

import (
	"fmt"
	"testing"

	"dynpos/api"
	"dynpos/plant"
	"dynpos/replay"
)

func same(t *testing.T, name string, got, want any) {
	t.Helper()
	if g, w := fmt.Sprint(got), fmt.Sprint(want); g != w {
		t.Errorf("%s: %s, not %s", name, g, w)
	}
}

var (
	table = api.Table{Start: 80, Stop: 40, Delay: 2}
	board = api.Board{Buses: 2, Breakers: []api.Breaker{{Kind: api.BreakerTie, A: 0, B: 1}, {Kind: api.BreakerSource, A: 0, B: 0}, {Kind: api.BreakerConsumer, A: 1, B: 0}},
		Sources: []api.Source{{Rating: 100, Start: 1}}, Consumers: []api.Consumer{{Load: 60, Thruster: -1}}}
)

func act(kind, unit, value int) api.Act { return api.Act{Kind: kind, Unit: unit, Value: value} }

// record starts the generator, connects it, and loads it.
func record() [][]api.Act {
	return [][]api.Act{{act(api.ActStart, 0, 0)}, {act(api.ActClose, 1, 0), act(api.ActClose, 0, 0)}, nil, {act(api.ActClose, 2, 0)}, {act(api.ActFail, 0, api.PartBus)}}
}

func TestText(t *testing.T) {
	p := api.Plant{Time: 7, Power: api.Power{Closed: []bool{true, false}, Sources: []api.Running{{State: 2, Since: 3, Frequency: 5000, Phase: 3599}, {State: -1}}, Limits: []int{60, -5}, Broken: []api.Part{{Kind: 3, Number: 1}, {Kind: 4, Number: 0}}}, Rosters: []api.Roster{{High: -1, Low: 5}}, Events: make([]api.Event, 3)}
	same(t, "Text", replay.Text(p), "7\n1 0\n2 3 5000 3599\n-1 0 0 0\n60 -5\n3 1\n4 0\n-1 5\n")
	same(t, "nothing", replay.Text(api.Plant{}), "0\n\n\n")
}

func TestDigest(t *testing.T) {
	sum := uint64(14695981039346656037)
	for _, x := range []byte("0\n\n\n") {
		sum = (sum ^ uint64(x)) * 1099511628211
	}
	same(t, "Digest", replay.Digest(api.Plant{}), sum)
	same(t, "without the events", replay.Digest(api.Plant{Events: make([]api.Event, 3)}), sum)
	if replay.Digest(api.Plant{Time: 1}) == sum {
		t.Error("another plant has the same digest")
	}
}

func TestRun(t *testing.T) {
	p, _ := plant.New(board, table)
	digests, last, e := replay.Run(board, table, p, record())
	same(t, "error", []any{e, len(digests), last.Time}, []any{api.OK, 5, 5})
	q := p
	for i, acts := range record() {
		q, _, _ = plant.Step(board, table, q, acts)
		same(t, fmt.Sprint(i), digests[i], replay.Digest(q))
	}
	same(t, "the last plant", last, q)
	digests, last, e = replay.Run(board, table, p, nil)
	same(t, "no ticks", []any{digests, last, e}, []any{[]int{}, p, api.OK})
}

func TestResume(t *testing.T) {
	p, _ := plant.New(board, table)
	whole, end, _ := replay.Run(board, table, p, record())
	for from := range len(record()) + 1 {
		first, middle, _ := replay.Run(board, table, p, record()[:from])
		rest, last, e := replay.Resume(board, table, middle, record(), from)
		same(t, fmt.Sprint(from), []any{append(first, rest...), last, e}, []any{whole, end, api.OK})
	}
}

func TestErrors(t *testing.T) {
	p, _ := plant.New(board, table)
	late := p
	late.Time = api.MaxTime
	for i, x := range []struct {
		t      api.Table
		p      api.Plant
		record [][]api.Act
		from   int
		want   api.Errno
	}{
		{api.Table{}, p, make([][]api.Act, 61), -1, api.ErrRange}, {api.Table{}, p, make([][]api.Act, 61), 62, api.ErrRange}, {api.Table{}, p, make([][]api.Act, 61), 61, api.ErrLimit}, {api.Table{}, p, make([][]api.Act, 60), 60, api.ErrRange}, {table, api.Plant{}, nil, 0, api.ErrShape}, {table, late, record(), 4, api.ErrTime}, {table, p, [][]api.Act{make([]api.Act, 201)}, 0, api.ErrLimit}, {table, late, record(), 5, api.OK}, {table, p, make([][]api.Act, 60), 0, api.OK},
	} {
		digests, q, e := replay.Resume(board, x.t, x.p, x.record, x.from)
		same(t, fmt.Sprint(i), e, x.want)
		if e == api.OK {
			continue
		}
		same(t, fmt.Sprint(i), []any{digests, q}, []any{[]int{}, api.Plant{}})
		if x.from == 0 {
			_, _, f := replay.Run(board, x.t, x.p, x.record)
			n, g := replay.Differ(board, x.t, x.p, x.record, nil)
			m, h := replay.Differ(board, x.t, x.p, nil, x.record)
			same(t, fmt.Sprint(i), []any{f, n, g, m, h}, []any{x.want, 0, x.want, 0, x.want})
		}
	}
	_, e := replay.Differ(board, table, p, [][]api.Act{make([]api.Act, 201)}, make([][]api.Act, 61))
	_, f := replay.Differ(board, table, p, make([][]api.Act, 61), [][]api.Act{make([]api.Act, 201)})
	same(t, "the first one first", []api.Errno{e, f}, []api.Errno{api.ErrLimit, api.ErrLimit})
}

func TestFirst(t *testing.T) {
	for _, x := range []struct {
		a, b []uint64
		want int
	}{{nil, nil, -1}, {[]uint64{1, 2}, []uint64{1, 2}, -1}, {[]uint64{1, 2}, []uint64{1, 3}, 1}, {[]uint64{1, 2}, []uint64{1}, 1}, {nil, []uint64{0}, 0}, {[]uint64{5, 2}, []uint64{1, 2}, 0}} {
		same(t, fmt.Sprint(x), replay.First(x.a, x.b), x.want)
	}
}

func TestDiffer(t *testing.T) {
	p, _ := plant.New(board, table)
	for tick := range 5 {
		other := record()
		other[tick] = append([]api.Act{act(api.ActLimit, 0, 30)}, other[tick]...)
		n, e := replay.Differ(board, table, p, record(), other)
		same(t, fmt.Sprint(tick), []any{n, e}, []any{tick, api.OK})
	}
	n, e := replay.Differ(board, table, p, record(), record())
	same(t, "equal", []any{n, e}, []any{-1, api.OK})
	n, e = replay.Differ(board, table, p, record(), record()[:3])
	same(t, "shorter", []any{n, e}, []any{3, api.OK})
}
