package network_test

import (
	"fmt"
	"math"
	"math/rand"
	"slices"
	"testing"

	"dynpos/api"
	"dynpos/network"
)

func same(t *testing.T, name string, got, want any) {
	t.Helper()
	if g, w := fmt.Sprint(got), fmt.Sprint(want); g != w {
		t.Errorf("%s: %s, not %s", name, g, w)
	}
}

// four has four nodes: a row of cables (0, 1, 2) in the first net, and two pairs (3, 4) in the second one.
func four() api.Net {
	return api.Net{Nodes: 4, Cables: []api.Cable{{Net: 0, A: 0, B: 1}, {Net: 0, A: 1, B: 2}, {Net: 0, A: 2, B: 3}, {Net: 1, A: 0, B: 1}, {Net: 1, A: 2, B: 3}}}
}

func cables(numbers ...int) []api.Part {
	var l []api.Part
	for _, n := range numbers {
		l = append(l, api.Part{Kind: api.PartCable, Number: n})
	}
	return l
}

func TestCheck(t *testing.T) {
	same(t, "valid", []api.Errno{network.Check(four()), network.Check(api.Net{Nodes: 1}), network.Check(api.Net{Nodes: 8, Cables: []api.Cable{{Net: 0, A: 0, B: 7}, {Net: 1, A: 0, B: 7}}})}, []api.Errno{0, 0, 0})
	big := api.Net{Nodes: 8}
	for i := range 25 {
		k := i % 13
		big.Cables = append(big.Cables, api.Cable{Net: i / 13, A: k / 7, B: 1 + k%7 + k/7})
	}
	same(t, "24 and 25 cables", []api.Errno{network.Check(big), network.Check(api.Net{Nodes: 8, Cables: big.Cables[:24]})}, []api.Errno{api.ErrNet, api.OK})
	for i, change := range []func(n *api.Net){
		func(n *api.Net) { n.Nodes = 0 }, func(n *api.Net) { n.Nodes = 9 }, func(n *api.Net) { n.Nodes = 3 }, func(n *api.Net) { n.Cables = make([]api.Cable, 25) }, func(n *api.Net) { n.Cables[0].Net = -1 }, func(n *api.Net) { n.Cables[4].Net = 2 }, func(n *api.Net) { n.Cables[0].A = -1 }, func(n *api.Net) { n.Cables[0].A = 1 }, func(n *api.Net) { n.Cables[4].A, n.Cables[4].B = 3, 2 }, func(n *api.Net) { n.Cables[4].B = 4 },
		func(n *api.Net) { n.Cables[1] = n.Cables[0] }, func(n *api.Net) { n.Cables[0], n.Cables[1] = n.Cables[1], n.Cables[0] }, func(n *api.Net) { n.Cables[2], n.Cables[3] = n.Cables[3], n.Cables[2] },
	} {
		n := four()
		change(&n)
		name := fmt.Sprint(i)
		ports, l, e := network.Deliver(n, nil, nil, make([]api.Message, 61))
		same(t, name, []any{network.Check(n), network.Reach(n, nil, 0, 0, 0), network.Copies(n, nil, 0, 0), network.Cut(n, cables(0, 1, 2, 3, 4), 0, []int{0}), network.Ports(n), ports, l, e}, []any{api.ErrNet, false, 0, false, []int{}, []int{}, []int{}, api.ErrNet})
	}
}

func TestReach(t *testing.T) {
	for _, x := range []struct {
		broken    []api.Part
		net, a, b int
		want      bool
	}{
		{nil, 0, 0, 3, true}, {nil, 0, 3, 0, true}, {cables(1), 0, 0, 3, false}, {cables(1), 0, 2, 3, true}, {nil, 1, 0, 3, false}, {nil, 1, 2, 3, true}, {cables(0, 1, 2), 0, 2, 2, true}, {[]api.Part{{Kind: api.PartBreaker, Number: 1}}, 0, 0, 3, true}, {cables(3, 4), 0, 0, 3, true},
		{nil, -1, 0, 0, false}, {nil, 2, 0, 0, false}, {nil, 0, -1, 0, false}, {nil, 0, 0, 4, false}, {nil, 0, 4, 4, false},
	} {
		same(t, fmt.Sprint(x), network.Reach(four(), x.broken, x.net, x.a, x.b), x.want)
	}
	same(t, "Copies", []int{network.Copies(four(), nil, 0, 1), network.Copies(four(), nil, 0, 2), network.Copies(four(), cables(0), 0, 1), network.Copies(four(), cables(0, 3), 0, 1), network.Copies(four(), cables(0, 1, 2, 3, 4), 1, 1), network.Copies(four(), nil, 0, 4)}, []int{2, 1, 1, 0, 2, 0})
}

func TestCut(t *testing.T) {
	for _, x := range []struct {
		broken []api.Part
		net    int
		nodes  []int
		want   bool
	}{
		{cables(1), 0, []int{0, 1}, true}, {cables(1), 0, []int{2, 3}, true}, {cables(1), 0, []int{0}, false}, {cables(0), 0, []int{0}, true}, {cables(2), 0, []int{0, 1, 2}, true}, {nil, 1, []int{0, 1}, true}, {nil, 0, []int{0, 1}, false}, {cables(0, 1, 2), 0, []int{0, 2}, true}, {cables(1), 0, nil, false}, {cables(1), 0, []int{0, 1, 2, 3}, false}, {cables(1), 0, []int{1, 0}, false}, {cables(0), 0, []int{0, 0}, false}, {cables(1), 0, []int{-1, 0}, false}, {cables(2), 0, []int{3, 4}, false}, {cables(1), -1, []int{0, 1}, false}, {cables(1), 2, []int{0, 1}, false},
	} {
		same(t, fmt.Sprint(x), network.Cut(four(), x.broken, x.net, x.nodes), x.want)
	}
}

func TestPort(t *testing.T) {
	var full []int
	for n := 69; n < 100; n++ {
		full = append(full, n)
	}
	for i, x := range []struct {
		p    api.Port
		want bool
	}{{api.Port{}, true}, {api.Port{High: api.MaxTime}, true}, {api.Port{High: 100, Below: full}, true}, {api.Port{High: 3, Below: []int{1, 2}}, true}, {api.Port{High: -1}, false}, {api.Port{High: api.MaxTime + 1}, false}, {api.Port{High: 100, Below: []int{68}}, false}, {api.Port{High: 100, Below: []int{100}}, false}, {api.Port{High: 3, Below: []int{0}}, false}, {api.Port{High: 9, Below: []int{5, 5}}, false}, {api.Port{High: 9, Below: []int{6, 5}}, false}, {api.Port{High: 0, Below: []int{0}}, false}, {api.Port{High: 100, Below: append(slices.Clone(full), 99)}, false}} {
		same(t, fmt.Sprint(i), network.Port(x.p), x.want)
		if !x.want {
			p, ok := network.Accept(x.p, 1000)
			same(t, fmt.Sprint(i), []any{p, ok}, []any{x.p, false})
		}
	}
}

func TestAccept(t *testing.T) {
	for _, x := range []struct {
		p      api.Port
		number int
		want   api.Port
		ok     bool
	}{
		{api.Port{}, 5, api.Port{High: 5}, true}, {api.Port{}, 0, api.Port{}, false}, {api.Port{}, -1, api.Port{}, false}, {api.Port{}, api.MaxTime, api.Port{High: api.MaxTime}, true}, {api.Port{}, api.MaxTime + 1, api.Port{}, false}, {api.Port{High: 5}, 5, api.Port{High: 5}, false}, {api.Port{High: 5}, 3, api.Port{High: 5, Below: []int{3}}, true}, {api.Port{High: 5, Below: []int{3}}, 3, api.Port{High: 5, Below: []int{3}}, false}, {api.Port{High: 5, Below: []int{3}}, 4, api.Port{High: 5, Below: []int{3, 4}}, true},
		{api.Port{High: 5, Below: []int{3}}, 1, api.Port{High: 5, Below: []int{1, 3}}, true}, {api.Port{High: 5, Below: []int{3}}, 9, api.Port{High: 9, Below: []int{3, 5}}, true}, {api.Port{High: 5, Below: []int{3}}, 34, api.Port{High: 34, Below: []int{3, 5}}, true}, {api.Port{High: 5, Below: []int{3}}, 35, api.Port{High: 35, Below: []int{5}}, true}, {api.Port{High: 5, Below: []int{3}}, 37, api.Port{High: 37}, true}, {api.Port{High: 40}, 9, api.Port{High: 40, Below: []int{9}}, true}, {api.Port{High: 40}, 8, api.Port{High: 40}, false}, {api.Port{High: 40}, math.MinInt, api.Port{High: 40}, false},
	} {
		p, ok := network.Accept(x.p, x.number)
		same(t, fmt.Sprint(x), []any{p, ok}, []any{x.want, x.ok})
	}
	p, ok3 := network.Accept(api.Port{}, 5)
	p, ok4 := network.Accept(p, 3)
	_, ok5 := network.Accept(p, 5)
	same(t, "the example", []bool{ok3, ok4, ok5}, []bool{true, true, false})
}

func TestDeliver(t *testing.T) {
	n := four()
	l := []api.Message{{From: 0, To: 1, Number: 1, Value: 7}, {From: 0, To: 1, Number: 1, Value: 8}, {From: 1, To: 3, Number: 1}, {From: 2, To: 2, Number: 4}, {From: 0, To: 1, Number: 2}}
	ports, accepted, e := network.Deliver(n, cables(1), network.Ports(n), l)
	want := make([]api.Port, 16)
	want[1*4+0] = api.Port{High: 2, Below: []int{1}}
	want[2*4+2] = api.Port{High: 4}
	same(t, "Deliver", []any{ports, accepted, e}, []any{want, []api.Message{l[0], l[3], l[4]}, api.OK})
	ports, accepted, e = network.Deliver(n, nil, ports, []api.Message{l[0], l[2]})
	want[3*4+1] = api.Port{High: 1}
	same(t, "again", []any{ports, accepted, e}, []any{want, []api.Message{l[2]}, api.OK})
	same(t, "Ports", network.Ports(api.Net{Nodes: 2}), make([]api.Port, 4))
	wrong := network.Ports(n)
	wrong[15].High = -1
	for i, x := range []struct {
		ports []api.Port
		l     []api.Message
		want  api.Errno
	}{{network.Ports(n)[1:], make([]api.Message, 61), api.ErrShape}, {nil, nil, api.ErrShape}, {network.Ports(n), append(make([]api.Message, 60), api.Message{From: 4}), api.ErrRange}, {network.Ports(n), []api.Message{{To: -1}}, api.ErrRange}, {network.Ports(n), []api.Message{{To: 4}}, api.ErrRange}, {network.Ports(n), []api.Message{{From: -1}}, api.ErrRange}, {wrong, nil, api.ErrRange}, {wrong, make([]api.Message, 61), api.ErrRange}, {network.Ports(n), make([]api.Message, 61), api.ErrLimit}, {network.Ports(n), make([]api.Message, 60), api.OK}} {
		ports, accepted, e := network.Deliver(n, nil, x.ports, x.l)
		same(t, fmt.Sprint(i), e, x.want)
		if e != api.OK {
			same(t, fmt.Sprint(i), []any{ports, accepted}, []any{[]int{}, []int{}})
		}
	}
}

func TestNothingArrivesTwice(t *testing.T) {
	r := rand.New(rand.NewSource(20))
	for range 100 {
		n := four()
		ports, seen, sent := network.Ports(n), map[api.Message]int{}, 0
		for range 30 {
			var broken []api.Part
			for i := range n.Cables {
				if r.Intn(3) == 0 {
					broken = append(broken, cables(i)...)
				}
			}
			sent++
			l := []api.Message{{From: r.Intn(4), To: r.Intn(4), Number: 1 + r.Intn(50)}, {From: 0, To: 3, Number: 100 + sent}}
			before := slices.Clone(ports)
			next, accepted, e := network.Deliver(n, broken, ports, l)
			if e != api.OK || fmt.Sprint(before) != fmt.Sprint(ports) {
				t.Fatalf("%v: error %d", l, e)
			}
			for _, m := range accepted {
				seen[m]++
				if seen[m] > 1 {
					t.Fatalf("%v arrives twice", m)
				}
			}
			if network.Copies(n, broken, 0, 3) > 0 && seen[l[1]] == 0 {
				t.Fatalf("%v is lost", l[1])
			}
			ports = next
		}
	}
}
